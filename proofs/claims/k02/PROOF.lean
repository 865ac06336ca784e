import PyProof.Rows.All
import Wide.All
import OpenK.AllK
import Wide.FinOn
import HandS.Codes
import HandS.Conv
import HandS.DictComp
import HandS.ExcField
import HandS.ExcInit
import HandS.ExcIs
import HandS.ExcValue
import HandS.Finally
import HandS.Flow
import HandS.ForMost
import HandS.Head0
import HandS.Head1
import HandS.Head2
import HandS.HeadEnd
import HandS.HeadHook1
import HandS.HeadHook2
import HandS.IsInst
import HandS.ListItems
import HandS.MakeKw
import HandS.NoneIn
import HandS.SetFor
import HandS.SetKeys
import HandS.Star
import HandS.StrMore
import HandS.Strs
import HandS.Style
import HandS.TupLe
import HandS.Zip
import KE.GoesMore
import KE.KDictSum
import KE.KUnpack
import PyProof.DictKinds
import PyProof.DictUpdate
import PyProof.ListStr
import PyProof.Rows.MatchSeqLen
import PyProof.Rows.SortShellAny
import PyProof.Rows.StrMeet
import PyProof.RulesMatch
import PyProof.RulesMatchSeq
import PySem.Challenge.RW_noteshold_k02_trees_told
set_option Elab.async false
set_option linter.all false
set_option maxRecDepth 100000
set_option maxHeartbeats 4000000
namespace PySem.XKw
open PySem PySem.Spec PySem.Calls PyProof.Rows PySem.HandSPX
section
variable {M : Model} {A : Around} {E : Value → Shared → Prop} {h : Heap} {g : Array GenState} {d : Drawn} {t : Nat} {os : OsState}
variable {nm q : Str} {C N : Addr} {bs bm bmB : List Value} {hdct : Bool} {sn : List Str} {sub : List Value} {ab : Bool} {col : Option Bool} {dd : Option Addr} {k0 k1 k2 k3 k5 : Option Value} {B newId initId : String}
theorem check_new_kw (F : ExcBaseFacts B newId initId bmB) (hT : ∀ X : String, bm.contains (.type X) = bmB.contains (.type X)) {rest : List Value} {kw : List (Str × Value)} {Q : Unit → Shared → Prop}
    (hC : h.get? C = some (excClassObj nm q C N bs bm hdct sn sub ab col dd k0 k1 k2 k3 k5 newId)) (hq : Q () ⟨h, g, d, t, os⟩) : wpAny M A (checkBuiltinCall newId ⟨.ref C :: rest, kw⟩) Q E ⟨h, g, d, t, os⟩ := by
  have hcont : (Value.ref C :: bm).contains (.type B) = true := by rw [List.contains_cons, hT, F.hasB, Bool.or_true]
  have hstar := F.noStar
  simp only [checkBuiltinCall, F.newKind, F.newSplit, F.newRow]
  repeat (first | refine wpAny_loadPart_at hC ?_ | (refine wpAny_isSubtype_exc hC ?_; rw [hcont]) | refine wpAny_staticBase_exc hC ?_ | refine wpAny_madeBy_exc hC ?_ | simp only [bne_self_eq_false, Bool.false_eq_true, if_false] | wp_step)
  exact hq
end
section
variable {prog : Program} {w : World} {A : Around} {E : Value → Shared → Prop} {R : Result → Shared → Prop} {h : Heap} {g : Array GenState} {d : Drawn} {t : Nat} {os : OsState}
variable {nm q : Str} {C N : Addr} {bs bm bmB : List Value} {hdct : Bool} {sn : List Str} {sub : List Value} {ab : Bool} {col : Option Bool} {dd : Option Addr} {k0 k1 k2 k3 k5 : Option Value} {B newId initId : String}
theorem new_kw (F : ExcBaseFacts B newId initId bmB) (hT : ∀ X : String, bm.contains (.type X) = bmB.contains (.type X)) {rest : List Value} {kw : List (Str × Value)}
    (hC : h.get? C = some (excClassObj nm q C N bs bm hdct sn sub ab col dd k0 k1 k2 k3 k5 newId))
    (hq : R (.ok (.ret (.ref (h.objs.size + 1)))) ⟨(h.push { cls := .type "tuple", data := .seq rest.toArray }).push
      { cls := .ref C, data := .fields #[.ref h.objs.size, .none, .none, .none, .bool false, .none] }, g, d, t, os⟩) (hrest : rest.length ≤ sizeLine) :
    codeAny (model prog w) A (.builtin newId ⟨.ref C :: rest, kw⟩) R ⟨h, g, d, t, os⟩ := by
  have hends := F.ends
  have hcB : (Value.ref C :: bm).contains (.type B) = true := by rw [List.contains_cons, hT, F.hasB, Bool.or_true]
  have hcA : (Value.ref C :: bm).contains (.type "AttributeError") = false := by rw [List.contains_cons, hT, F.noAttr]; rfl
  have hcN : (Value.ref C :: bm).contains (.type "NameError") = false := by rw [List.contains_cons, hT, F.noName]; rfl
  refine codeAny_builtinAt F.entry ?_
  unfold Builtin.«BaseException.__new__»
  refine wpAt_bind ?_
  show wpAt _ _ _ (stack >>= _) _ _ _
  refine wpAt_bind (wpAt_stack fun p below => wpAt_of_wpAny ?_)
  wp_walk
  refine wpAt_of_wpAny ?_
  rw [F.owner]
  repeat (first | with_reducible refine wpAny_madeHere_exc F.canon hC ?_ | with_reducible refine wpAny_loadPart_at hC ?_ | (with_reducible refine wpAny_isSubtype_exc hC ?_; first | rw [hcB] | rw [hcA] | rw [hcN]) | wp_step)
  show R _ _
  rw [Heap.size_push]
  exact hq
theorem type_call_kw (F : ExcBaseFacts B newId initId bmB) (hT : ∀ X : String, bm.contains (.type X) = bmB.contains (.type X)) {rest : List Value} {kw : List (Str × Value)} {fI : Addr} {Q : Fin → Shared → Prop}
    (hC : h.get? C = some (excClassObj nm q C N bs bm hdct sn sub ab col dd k0 k1 k2 k3 k5 newId))
    (hi : W.Looks (model prog w) h (typeLookup (.ref C) "__init__") (some (.ref fI))) (hb : ∀ self, W.Looks (model prog w) h (bindSpecial (.ref fI) self) (.ref fI, [self])) (hrest : rest.length ≤ sizeLine)
    (hq : codeAny (model prog w) A (.call (.ref fI) ⟨.ref (h.objs.size + 1) :: rest, kw⟩)
      (fun r s' => match r with | .ok (.ret v) => v = .none ∧ Q (.done (.ret (.ref (h.objs.size + 1)))) s' | .ok _ => False | .error e => E e s')
      ⟨(h.push (W.kdv_tup rest)).push (excO C h.objs.size), g, d, t, os⟩) :
    wpAny (model prog w) A (Builtin.«type.__call__» ⟨.ref C :: rest, kw⟩) Q E ⟨h, g, d, t, os⟩ := by
  repeat (first | with_reducible refine wpAny_loadPart_at hC ?_ | with_reducible refine wpAny_madeBy_exc hC ?_ | wp_step)
  refine codeAny_call_builtin_code (Code.quiet_builtin _ F.quiet) (check_new_kw F hT hC ?_)
  refine new_kw F hT hC ?_ hrest
  show wpAny _ _ _ _ _ _
  have k : ∀ b o, h.get? b = some o → ((h.push (W.kdv_tup rest)).push (excO C h.objs.size)).get? b = some o := fun b o e => Heap.get?_push_of_some _ (Heap.get?_push_of_some _ e)
  have hC₁ := k _ _ hC
  have hget : ((h.push (W.kdv_tup rest)).push (excO C h.objs.size)).get? (h.objs.size + 1) = some (excO C h.objs.size) := by heap_get
  have hcC : (Value.ref C :: bm).contains (.ref C) = true := by simp
  have i1 := hi.keeps k
  have b1 := (hb (.ref (h.objs.size + 1))).keeps k
  unfold isInstance
  repeat (first | with_reducible refine wpAny_loadPart_at hget ?_ | (with_reducible refine wpAny_isSubtype_exc hC₁ ?_; rw [hcC]) | wp_step)
  show wpAny _ _ (typeLookup (.ref C) _) _ _ _
  refine i1.at ?_
  refine wpAny_holding (wpAny_bind (b1.at ?_))
  refine wpAny_bind (wpAny_call (codeAny_mono hq fun r s' z => ?_))
  rcases r with e | (v | _ | _ | _) <;> first | exact z | exact z.elim | skip
  obtain ⟨rfl, z⟩ := z
  first
    | exact wpAny_pure (wpAny_pure z)
    | (wp_walk; exact z)
theorem call_kw (F : ExcBaseFacts B newId initId bmB) (hT : ∀ X : String, bm.contains (.type X) = bmB.contains (.type X)) {rest : List Value} {kw : List (Str × Value)} {fI : Addr}
    (hC : h.get? C = some (excClassObj nm q C N bs bm hdct sn sub ab col dd k0 k1 k2 k3 k5 newId))
    (hi : W.Looks (model prog w) h (typeLookup (.ref C) "__init__") (some (.ref fI))) (hb : ∀ self, W.Looks (model prog w) h (bindSpecial (.ref fI) self) (.ref fI, [self])) (hrest : rest.length ≤ sizeLine)
    (hq : codeAny (model prog w) (A.under (.builtin "type.__call__" ⟨.ref C :: rest, kw⟩)) (.call (.ref fI) ⟨.ref (h.objs.size + 1) :: rest, kw⟩) (W.InitBack (h.objs.size + 1) R)
      ⟨(h.push (W.kdv_tup rest)).push (excO C h.objs.size), g, d, t, os⟩) :
    codeAny (model prog w) A (.call (.ref C) ⟨rest, kw⟩) R ⟨h, g, d, t, os⟩ := by
  have f1 := tc_lookup
  have f2 := tc_bind (.ref C)
  have hTy : (⟨h, g, d, t, os⟩ : Shared).TypeIs (.ref C) "type" := ⟨_, hC, rfl⟩
  refine codeAny_of_tree ?_
  show wpAny _ _ (callAny (.ref C) _) _ _ _
  repeat (any_goals (first | assumption | with_reducible refine wpAny_loadPart_at hC ?_ | wp_step))
  refine ⟨rfl, ?_⟩
  refine codeAny_call_builtin_at (Code.quiet_builtin _ (by decide +kernel)) entry_typeCall (wpAny_check_type_call_sub hC (type_call_kw F hT hC hi hb hrest ?_))
  refine codeAny_mono hq fun r s' z => ?_
  rcases r with e | (v | _ | _ | _) <;> exact z
end
end PySem.XKw
set_option Elab.async false
set_option linter.all false
set_option maxRecDepth 100000
set_option maxHeartbeats 4000000
namespace PySem.XKw
open PySem PySem.Spec PySem.Calls PyProof.Rows PySem.W
section
variable {prog : Program} {w : World} {A : Around} {E : Value → Shared → Prop} {s : Shared} {K : Frag} {x D : Addr} {ox : Obj} {od : Option Obj}
theorem findObj_data {C : Addr} {name : Str} {a g : Value} (hc : (clsIn K C).isSome = true) (ha : findIn K (.ref C) name = some (some a)) (hg : specialIn K a "__get__" = some (some g)) (ht : takesIn K a = some true) : findObj K C od name = some (.bind g a) := by
  obtain ⟨cd, hc⟩ := Option.isSome_iff_exists.mp hc
  unfold findObj
  rw [hc, Option.bind_some, ha, Option.bind_some]
  simp [hg, ht]
theorem kin_classO {Q : Option Value → Shared → Prop} (hga : findIn K (.ref D) "__getattribute__" = some (some (.builtin "BaseException.__getattribute__"))) (hgt : findIn K (.ref D) "__getattr__" = some none) (hsub : subIn K (.ref D) (.type "BaseException") = some true)
    (hdct : hasDictIn K D = true) (ha : findIn K (.ref D) "__class__" = some (some (.builtin "object.__class__")))
    (hn : specialIn K (.builtin "object.__class__") "__get__" = some (some (.builtin "getset_descriptor.__get__"))) (htk : takesIn K (.builtin "object.__class__") = some true) (hm : mroIn K D (.type "object") = some true)
    (X : K.In s.heap) (I : InstAt s.heap x ox D od) (h : Q (some (.ref D)) { s with toks := s.toks + 1 }) : wpAny (model prog w) A (getAttr? (.ref x) "__class__") Q E s := by
  have hf : findObj K D od "__class__" = some (.bind (.builtin "getset_descriptor.__get__") (.builtin "object.__class__")) := findObj_data (by obtain ⟨cd, hc, _⟩ := any_some hdct; rw [hc]; rfl) ha hn htk
  obtain ⟨hp, g, d, t, os⟩ := s
  have L0 := I.type (M := model prog w)
  have L1 := looks_findIn (M := model prog w) X hga
  have L2 := looks_findIn (M := model prog w) X hgt
  have L3 := looks_find (M := model prog w) X I hf
  have sub : Looks (model prog w) hp (isInstance (.ref x) (.type "BaseException")) true := L0.andThen (looks_subIn X hsub)
  have hx0 : (false && onTheHeap (Value.builtin "BaseException.__getattribute__")) = false := rfl
  have hx2 : (Value.builtin "BaseException.__getattribute__" == Value.builtin "object.__getattribute__") = false := by decide +kernel
  have hx1 : (onTheHeap (Value.ref D) && Value.builtin "BaseException.__getattribute__" == Value.builtin "object.__getattribute__") = false := by rw [hx2]; rfl
  unfold getAttr? getAttrBy? getAttrBy
  refine wpAny_bind (wpAny_mkText (wpAny_bind (wpAny_attempt (wpAny_holding (wpAny_bind (L0.at (wpAny_bind (L1.at ?_))))))))
  show wpAny _ _ (if (onTheHeap (Value.ref D) && Value.builtin "BaseException.__getattribute__" == Value.builtin "object.__getattribute__") = true then _ else _) _ _ _
  rw [hx1, if_neg Bool.false_ne_true]
  unfold getAttrByItsOwn hookBefore
  refine wpAny_bind ?_
  rw [if_pos (show onTheHeap (Value.ref D) = true from rfl)]
  refine L2.at ?_
  refine wpAny_bind (wpAny_attempt (wpAny_holding ?_))
  unfold callGetattribute
  rw [hx0, if_neg Bool.false_ne_true]
  unfold boundAndCalled
  rw [PySem.F.excAttr_ValueError.ga.bind (.ref x)]
  refine wpAny_bind (wpAny_pure ?_)
  show wpAny _ _ (call (.builtin "BaseException.__getattribute__") [.ref x, .str "__class__" t]) _ _ _
  refine wpAny_call (codeAny_call_builtin PySem.F.excAttr_ValueError.ga.plain PySem.F.entry_bexc_ga ?_)
  refine @check_slot (model prog w) _ _ ⟨hp, g, d, t + 1, os⟩ "BaseException.__getattribute__" "BaseException" "__getattribute__" (.ref x) [.str "__class__" t] [] _ (by decide +kernel) (by decide +kernel) sub (PySem.F.args_bexc_ga (.ref x) (.str "__class__" t)) ?_
  unfold Builtin.«object.__getattribute__»
  refine wpAny_bind (wpAny_of_eq (a := ((Value.ref x : Value), [Value.str "__class__" t])) (by first | rfl | (simp only [slotArgs]; rfl)) ?_)
  refine wpAny_bind (wpAny_pure (wpAny_bind (L0.at (wpAny_bind (L3.at ?_)))))
  show wpAny _ _ (holding [Value.builtin "object.__class__"] (call (.builtin "getset_descriptor.__get__") [.builtin "object.__class__", .ref x, .ref D]) >>= ret) _ _ _
  refine wpAny_bind (wpAny_holding (wpAny_call (class_get (s := ⟨hp, g, d, t + 1, os⟩) (ox := ox) (od := od) X I hm ?_)))
  refine wpAny_pure ?_
  show wpAny _ _ (handedOut (.ref D)) _ _ _
  rw [handedOut_of (v := .ref D) rfl]
  first
    | exact wpAny_pure (wpAny_pure h)
    | exact wpAny_pure h
    | exact wpAny_pure (wpAny_bind (wpAny_pure (wpAny_pure h)))
/-- an exception that is held, its dict of any kind -/
theorem kitx_excO (hga : findIn K (.ref D) "__getattribute__" = some (some (.builtin "BaseException.__getattribute__"))) (hgt : findIn K (.ref D) "__getattr__" = some none) (hsub : subIn K (.ref D) (.type "BaseException") = some true) (hdct : hasDictIn K D = true) (ha : findIn K (.ref D) "__class__" = some (some (.builtin "object.__class__")))
    (hn : specialIn K (.builtin "object.__class__") "__get__" = some (some (.builtin "getset_descriptor.__get__"))) (htk : takesIn K (.builtin "object.__class__") = some true) (hm : mroIn K D (.type "object") = some true) :
    KitX K (.ref x) (.ref D) (fun h => ∃ ox od, InstAt h x ox D od) where
  ty := fun _ _ _ I => by obtain ⟨ox, od, I⟩ := I; exact I.type
  it := fun _ _ X _ => by
    obtain ⟨cdD, hcD, _⟩ := any_some hdct
    unfold clsIn at hcD
    split at hcD
    · rename_i c' d' cd' sl' ho
      intro A' Q' E' s' k q
      unfold isType loadHead
      exact wpAny_bind (wpAny_loadPart (k _ _ (X _ _ ho)) (wpAny_pure q))
    · cases hcD
  ne := fun h tp dd its n sl X htp => by
    obtain ⟨cdD, hcD, _⟩ := any_some hdct
    refine Bool.eq_false_iff.mpr fun q => ?_
    have e : D = tp := Value.ref.inj (beq_iff_eq.mp q)
    subst e
    unfold clsIn at hcD
    split at hcD
    · rename_i c' d' cd' sl' ho
      have z := (X _ _ ho).symm.trans htp
      cases z
    · cases hcD
  ca := fun X I k => by obtain ⟨ox, od, I⟩ := I; exact kin_classO hga hgt hsub hdct ha hn htk hm X I k
end
end PySem.XKw

namespace Nb
open PySem PySem.Spec PyProof.Rows L2
/-! ### exceptions of own classes, held as values -/
/-- C(e, .., k = v, ..), C's own __init__ keeping sp: a new exception -/
def tMkE (C : Addr) (n m : Nat) (sp : Sp) (gV : List V → List V → List V) (t tk : TA) : TE := fun σ H Q => t σ H fun vs H1 => tk σ H1 fun zs H2 => vs.length = n ∧ zs.length = m ∧ n ≤ 1000 ∧
  ∀ a, H2 a = none → sp (gV (.ref a :: vs) zs) (upd H2 a (exo a C none)) (fun v H3 => v = .non ∧ Q (.ref a) H3) (fun _ _ _ => False)
section
variable {X : Cx} {k n : Nat} {fI C : Addr} {fd : FuncData} {ps ks : List Str} {sp : Sp} {x : Str} {p pos : Pos} {e : Expr} {es : List Expr} {kws : List Keyword} {t tk : TA} {g : List Value → List Value → List Value} {gV : List V → List V → List V}
theorem run_mkE {CX : CXT} {pins : List (Addr × Obj)} {σ : L2.St} {H : Hp} {s : Shared} {Q : VK} {us ws : List Value} {vs zs : List V} (T : OexC X.K C) (iC : PySem.W.findIn X.K (.ref C) "__init__" = some (some (.ref fI))) (tI : PySem.W.typeIn X.K (.ref fI) = some (.type "function"))
    (Fn : FnOk X.prog X.w X.K X.mg X.base CX k fI fd ps sp) (hr : Room (k + 1) X.A) (hb : KBn X.K fd ps (n + 1) ks g gV)
    (hx : Passes CX X (fun _ _ _ => False)) (I : Inv X pins σ H s) (r : Vals vs us) (rz : Vals zs ws) (l1 : vs.length = n) (l2 : zs.length = ks.length) (hn1 : n ≤ 1000)
    (h : ∀ a, H a = none → sp (gV (.ref a :: vs) zs) (upd H a (exo a C none)) (fun v H2 => v = .non ∧ Q (.ref a) H2) (fun _ _ _ => False)) :
    wpAny (model X.prog X.w) X.A (call (.ref C) us (ks.zip ws)) (EP X pins σ Q) X.xe s := by
  obtain ⟨nm, q, N, bs, bm, sn, sub, ab, col, dd, k0, k1, k2, k3, k5, hC, hbm⟩ := T.cls
  obtain ⟨hp, gg, dr, tk, os⟩ := s
  have hsz : hp.objs.size ≤ hp.objs.size + 1 := Nat.le_succ _
  have hn : H (hp.objs.size + 1) = none := I.hok.fresh hsz
  have hq := h (hp.objs.size + 1) hn
  have kk : ∀ b o, hp.get? b = some o → ((hp.push (PySem.W.kdv_tup us)).push (PySem.HandSPX.excO C hp.objs.size)).get? b = some o := fun b o e => Heap.get?_push_of_some _ (Heap.get?_push_of_some _ e)
  have hget : ((hp.push (PySem.W.kdv_tup us)).push (PySem.HandSPX.excO C hp.objs.size)).get? (hp.objs.size + 1) = some (PySem.HandSPX.excO C hp.objs.size) := by heap_get
  have I2 : Inv X pins σ (upd H (hp.objs.size + 1) (exo (hp.objs.size + 1) C none)) ⟨(hp.push (PySem.W.kdv_tup us)).push (PySem.HandSPX.excO C hp.objs.size), gg, dr, tk, os⟩ :=
    I.laid (t' := tk) (a := hp.objs.size + 1) (o := exo (hp.objs.size + 1) C none) (h' := (hp.push (PySem.W.kdv_tup us)).push (PySem.HandSPX.excO C hp.objs.size)) kk hsz (exo_ok hget)
  have r1 : Vals (V.ref (hp.objs.size + 1) :: vs) (Value.ref (hp.objs.size + 1) :: us) := .cons rfl r
  have r2 := hb.rel r1 rz
  have e1 : (Value.ref (hp.objs.size + 1) :: us).length = n + 1 := r1.length.symm.trans (congrArg Nat.succ l1)
  have e2 : ws.length = ks.length := rz.length.symm.trans l2
  have hus : us.length ≤ sizeLine := by
    rw [← r.length, l1, sizeLine_eq]
    omega
  refine wpAny_call (PySem.XKw.call_kw F.excBase_ValueError (fun Y => PySem.HandSPX.refsVE_contains Y bm hbm) (I.kIn _ _ hC) (PySem.W.looks_findIn I.kIn iC) (fun self => PySem.W.bind_fn I.kIn self tI) hus
    (codeAny_mono (Fn.run _ X.stack _ _ ⟨Value.ref (hp.objs.size + 1) :: us, ks.zip ws⟩ (g (Value.ref (hp.objs.size + 1) :: us) ws) _ _ (fun _ _ _ => False) (hr.make C us (ks.zip ws)) (I2.env0.make C us (ks.zip ws))
      (hb.to _ (Value.ref (hp.objs.size + 1) :: us) ws I2.kIn e1 e2) r2 hq) fun r s' hq' => ?_))
  cases r with
  | error er => exact hx pins σ _ _ er s' I2 hq'
  | ok fl =>
    cases fl with
    | ret u =>
      obtain ⟨v, H', I3, rv, ev, q3⟩ := I2.after hq'
      subst ev
      exact ⟨rv, ⟨V.ref (hp.objs.size + 1), H', I3, rfl, q3⟩⟩
    | next => exact False.elim hq'
    | brk => exact False.elim hq'
    | cont => exact False.elim hq'
/-- C(e, ..) -/
theorem pe_mkE1 {CX : CXT} (T : OexC X.K C) (iC : PySem.W.findIn X.K (.ref C) "__init__" = some (some (.ref fI))) (tI : PySem.W.typeIn X.K (.ref fI) = some (.type "function")) (Fn : FnOk X.prog X.w X.K X.mg X.base CX k fI fd ps sp) (hr : Room (k + 1) X.A) (hg : Gl X x) (hm : X.mg x = some (.ref C))
    (hb : KBn X.K fd ps (n + 1) [] g gV) (hx : Passes CX X (fun _ _ _ => False)) (ha : PA X (e :: es) t)
    (hdb : (x == ("__debug__" : Str)) = false := by decide) (he : starEach (e :: es) X.env = (false, eval e X.env) :: starEach es X.env := by rfl) (hpl : (backTo pos (starEach es X.env)).any (·.1) = false := by rfl) :
    PE X (.Call (.Name x p) (e :: es) [] pos) (tMkE C n 0 sp gV t tNil) := by
  refine ⟨fun pins s σ H Q I h => ?_⟩
  refine wpAny_Call_Name_kw (ld_glob I hg hm ?_ hdb)
  refine PySem.W.callWith_K (h₀ := X.base) I.ok.mod.kin T.kC (thn (ha.run pos pins s σ H _ I h) fun us s1 ⟨vs, H1, I1, r1, l1, _, hn, q1⟩ => ⟨I1.kIn, ?_⟩) he hpl
  exact run_mkE (ks := []) (ws := []) (zs := []) T iC tI Fn hr hb hx I1 r1 .nil l1 rfl hn q1
/-- C(k = v, ..) -/
theorem pe_mkEk {CX : CXT} (T : OexC X.K C) (iC : PySem.W.findIn X.K (.ref C) "__init__" = some (some (.ref fI))) (tI : PySem.W.typeIn X.K (.ref fI) = some (.type "function")) (Fn : FnOk X.prog X.w X.K X.mg X.base CX k fI fd ps sp) (hr : Room (k + 1) X.A) (hg : Gl X x) (hm : X.mg x = some (.ref C))
    (hb : KBn X.K fd ps 1 ks g gV) (hx : Passes CX X (fun _ _ _ => False)) (hkw : PK X kws tk)
    (hall : (backToKw pos (keywordEach kws X.env)).all (·.1.isSome) = true := by rfl) (hks : (backToKw pos (keywordEach kws X.env)).filterMap (·.1) = ks := by rfl) (hdb : (x == ("__debug__" : Str)) = false := by decide)
    (hpl : ((backTo pos (starEach [] X.env)).any (·.1) || (backToKw pos (keywordEach kws X.env)).any (·.1.isNone)) = false := by rfl) :
    PE X (.Call (.Name x p) [] kws pos) (tMkE C 0 ks.length sp gV tNil tk) := by
  refine ⟨fun pins s σ H Q I h => ?_⟩
  refine wpAny_Call_Name_kw (ld_glob I hg hm ?_ hdb)
  refine PySem.W.callWith_KW0 (h₀ := X.base) I.ok.mod.kin T.kC hall ?_ hpl
  refine thn (hkw.run pos pins s σ H _ I h) fun ws s2 ⟨zs, H2, I2, rz, l1, l2, hn, q2⟩ => ⟨I2.kIn, ?_⟩
  rw [hks]
  exact run_mkE (us := []) (vs := []) T iC tI Fn hr hb hx I2 .nil rz rfl l2 hn q2
/-- e.f of such -/
theorem pe_xfE {te : TE} (T : XfC X.K C) (hno : PySem.W.findIn X.K (.ref C) x = some none) (he : PE X e te) (hb : attributeBase e x X.env (eval e X.env) = eval e X.env := by rfl) :
    PE X (.Attribute e x pos) (fun σ H Q => te σ H fun v H1 => ∃ (a dx : Addr) (fs : List (Str × V)) (w : V), v = .ref a ∧ H1 a = some (exo a C (some dx)) ∧ H1 dx = some (exd dx fs) ∧ fs.lookup x = some w ∧ Q w H1) := by
  refine ⟨fun pins s σ H Q I h => ?_⟩
  refine attr_of hb (thn (he.run pins s σ H _ I h) fun u s1 hh => ?_)
  obtain ⟨v, H1, I1, rx, a, dx, fs, w, rfl, ea, ed, l, q⟩ := hh
  obtain rfl : u = Value.ref a := rx
  obtain ⟨t1, ho⟩ := exo_at I1.hok ea
  obtain ⟨mA, hns, hr⟩ := exd_at I1.hok ed
  obtain ⟨od, hod, hl⟩ := lookIn_ns hns
  obtain ⟨u, hu, ru⟩ := RelO.some_of (v := w) (o := mA x) (by rw [← l]; exact hr x)
  have J : PySem.W.InstAt s1.heap a { cls := .ref C, dict := some dx, data := .fields #[.ref t1, .none, .none, .none, .bool false, .none] } C (some od) := ⟨ho, rfl, rfl, hod⟩
  exact HandSPX.exc_get I1.kIn J T.ga T.gg T.exC (PySem.W.findObj_own T.hdC hno rfl (by rw [hl, hu])) (handed_of ru) ⟨w, H1, I1.tok _, ru, q⟩
/-- isinstance(e, c) of such, e of the class D -/
def rIsO (K : PySem.W.Frag) : List V → Hp → VK → Prop := fun xs H Q => ∃ (a D : Addr) (d : Option Addr) (c : V) (cv : Value) (b : Bool), xs = [.ref a, c] ∧ H a = some (exo a D d) ∧ (∀ dx, d = some dx → ∃ fs, H dx = some (exd dx fs)) ∧ ExcC K D ∧ (∀ u, RelV c u → u = cv) ∧ PySem.W.kitOne K (.ref D) cv = some b ∧ Q (.bl b) H
theorem call_isO : CallR X (.builtin "isinstance") (rIsO X.K) := by
  intro pins s σ H xs us Q I r h
  obtain ⟨a, D, d, c, cv, b, rfl, ea, ed, C, hcv, e, q⟩ := h
  cases r with
  | cons rx rr =>
    cases rr with
    | cons rt rr =>
      cases rr
      cases rx
      have ec := hcv _ rt
      subst ec
      obtain ⟨t1, ho⟩ := exo_at I.hok ea
      have J : ∃ ox od, PySem.W.InstAt s.heap a ox D od := by
        cases d with
        | none => exact ⟨_, none, ho, rfl, rfl, trivial⟩
        | some dx =>
          obtain ⟨fs, e1⟩ := ed dx rfl
          obtain ⟨mA, hns, hr⟩ := exd_at I.hok e1
          obtain ⟨od, hod, hl⟩ := lookIn_ns hns
          exact ⟨_, some od, ho, rfl, rfl, hod⟩
      exact PySem.W.kia_one (PySem.XKw.kitx_excO C.hg C.hk C.hs C.hd C.ha C.hn C.ht C.hm) I.kIn J e (fun z => nomatch z) fun tk => ⟨.bl b, H, I.kept (t' := tk) fun _ _ z => z, rfl, q⟩
/-- X(), an own exception class without own __init__: a new exception -/
theorem pe_mkE0 {bmB : List Value} {B newId initId : String} (F : ExcBaseFacts B newId initId bmB) (q : PySem.W.excIn X.K C bmB newId = true) (gC : X.mg x = some (.ref C)) (kC : PySem.W.keepIn X.K (.ref C) = true) (hg : Gl X x)
    (hdb : (x == ("__debug__" : Str)) = false := by decide) :
    PE X (.Call (.Name x p) [] [] pos) (fun σ H Q => ∀ a, H a = none → Q (.ref a) (upd H a (exo a C none))) := by
  refine ⟨fun pins s σ H Q I h => ?_⟩
  refine wpAny_Call_Name_kw (ld_glob I hg gC ?_ hdb)
  refine PySem.W.callWith_K0 I.kIn kC ?_
  show wpAny _ _ (call (.ref C) []) _ _ _
  obtain ⟨bm, N, nm, qn, bs, hdct, sn, sub, ab, col, dd, k0, k1, k2, k3, k5, mN, hC, hN, hni, T⟩ := exc_obj I.kIn q
  refine wpAny_call_exc_subT F T hC hN hni (fun h' a hm => ?_) (by show 0 ≤ sizeLine; exact Nat.zero_le _)
  have hn : H a = none := I.hok.gone hm.new
  obtain ⟨t, ht, _, _⟩ := hm.there
  exact ⟨.ref a, upd H a (exo a C none), I.laidN hm.keeps hm.new hn (exo_ok ht), rfl, h a hn⟩
end
end Nb
set_option Elab.async false
set_option linter.all false
set_option maxRecDepth 100000
namespace Nb
open PySem PySem.Spec PyProof.Rows L2
/-! ### sets whose members are keys of one kind -/
section
variable {P : Program} {w : World} {κ : Type} [DecidableEq κ] (knd : PySem.KeyKind P w κ) (kf : Value → κ)
def OkE (e : Int × Value) : Prop := knd.is (kf e.2) e.2 = true ∧ e.1 = knd.hash (kf e.2) ∧ e.2.scannable = true
def keysE (l : List (Int × Value)) : List κ := l.map fun e => kf e.2
/-- at a stands a set, xs its members, its table can be gone through -/
def SetG (h : Heap) (a : Addr) (S : κ → Bool) (n : Nat) : Prop := ∃ ob els ep tab, h.get? a = some ob ∧ ob.ExactSet ∧ ob.data = .set els ep tab ∧ (∀ e ∈ els.toList, OkE knd kf e) ∧ (keysE kf els.toList).Nodup ∧
  (∀ k, S k = true ↔ k ∈ keysE kf els.toList) ∧ els.size < scanBound ∧ tab.fits els.size = true ∧ els.size = n ∧ Ris tab.place.toList ∧ (w.params.followText "set-order" = true ∨ tab.led = true)
end
section
variable {P : Program} {w : World} {κ : Type} [DecidableEq κ] {knd : PySem.KeyKind P w κ} {kf : Value → κ} {h h' : Heap} {a : Addr} {S : κ → Bool} {n : Nat}
theorem SetG.to (g : SetG knd kf h a S n) (k : ∀ ob, h.get? a = some ob → h'.get? a = some ob) : SetG knd kf h' a S n := by
  obtain ⟨ob, els, ep, tab, g1, g2⟩ := g
  exact ⟨ob, els, ep, tab, k ob g1, g2⟩
theorem SetG.as {S' : κ → Bool} (g : SetG knd kf h a S n) (e : ∀ k, S' k = S k) : SetG knd kf h a S' n := by
  have z : S' = S := funext e
  rw [z]; exact g
theorem okE_elems {l : List (Int × Value)} (g : ∀ e ∈ l, OkE knd kf e) : ElemsOf knd l := fun e he =>
  let ⟨g1, g2, g3⟩ := g e he
  ⟨⟨kf e.2, g1, g2⟩, g3⟩
theorem okE_mem (hkf : ∀ k v, knd.is k v = true → kf v = k) {l : List (Int × Value)} (g : ∀ e ∈ l, OkE knd kf e) (k : κ) : k ∈ keysE kf l ↔ ∃ e ∈ l, knd.is k e.2 = true := by
  unfold keysE
  rw [List.mem_map]
  constructor
  · rintro ⟨e, he, rfl⟩
    exact ⟨e, he, (g e he).1⟩
  · rintro ⟨e, he, z⟩
    exact ⟨e, he, hkf k e.2 z⟩
variable {A : Around} {E : Value → Shared → Prop} {s : Shared}
theorem setG_tail {gv : Bool → Sem Unit} (hgv : ∀ (b : Bool) (s1 : Shared) (Q1 : Unit → Shared → Prop), Q1 () s1 → wpAny (model P w) A (gv b) Q1 E s1)
    {ob : Obj} {els : Array (Int × Value)} {ep : Nat} {tab : SetTable} (h0 : s.heap.get? a = some ob) (hx : ob.ExactSet) (hd : ob.data = .set els ep tab)
    {els1 : Array (Int × Value)} {tab1 : SetTable} {S' : κ → Bool} (g1 : ∀ e ∈ els1.toList, OkE knd kf e) (g2 : (keysE kf els1.toList).Nodup) (g3 : ∀ k, S' k = true ↔ k ∈ keysE kf els1.toList)
    (g4 : els1.size < scanBound) (g5 : tab1.fits els1.size = true) (g6 : Ris tab1.place.toList) (g7 : w.params.followText "set-order" = true ∨ tab1.led = true) {wd : Bool} {R : Option Bool → Shared → Prop}
    (hR : ∀ h', Heap.SameBut a s.heap h' → SetG knd kf h' a S' els1.size → R (some true) { s with heap := h' }) :
    wpAny (model P w) A (do
        storeSet a els1 tab1
        if (!wd && tab1.tooFull) = true then do
            gv (relayAll tab1 els1 (SetTable.grown els1.size)).2.2
            storeSet a (relayAll tab1 els1 (SetTable.grown els1.size)).1 (relayAll tab1 els1 (SetTable.grown els1.size)).2.1
            pure (some true)
          else pure (some true)) R E s := by
  refine wpAny_bind (wpAny_storeSet_of h0 hd ?_ (fits_of_scanBound g4))
  have k1 := store_at (es' := els1) (t' := tab1) h0 hd
  have b1 := Heap.SameBut.update s.heap a (Obj.putSet els1 tab1)
  split
  · have q1 := relayAll_perm tab1 els1 (SetTable.grown els1.size)
    have q2 := relayAll_fits tab1 els1 (SetTable.grown els1.size)
    have q3 := relayAll_ris tab1 els1 (SetTable.grown els1.size)
    have q4 := relayAll_led tab1 els1 (SetTable.grown els1.size)
    generalize relayAll tab1 els1 (SetTable.grown els1.size) = Y at q1 q2 q3 q4 ⊢
    obtain ⟨els2, tab2, gave⟩ := Y
    dsimp only at q1 q2 q3 q4 ⊢
    have hz : els2.size = els1.size := by rw [← Array.length_toList, q1.length_eq, Array.length_toList]
    have hb : els2.size < scanBound := by rw [hz]; exact g4
    refine wpAny_bind (hgv _ _ _ ?_)
    refine wpAny_bind (wpAny_storeSet_of k1 rfl ?_ (fits_of_scanBound hb))
    have k2 := store_at (es' := els2) (t' := tab2) k1 rfl
    refine wpAny_pure (hR _ (b1.trans (Heap.SameBut.update _ a _)) ?_)
    exact ⟨_, els2, _, tab2, k2, hx, rfl, fun e he => g1 e (q1.mem_iff.mp he), (q1.map fun e : Int × Value => kf e.2).nodup_iff.mpr g2, fun k => (g3 k).trans (q1.map fun e : Int × Value => kf e.2).mem_iff.symm, hb, q2, hz, q3,
      g7.imp id fun z => by rw [q4]; exact z⟩
  · exact wpAny_pure (hR _ b1 ⟨_, els1, _, tab1, k1, hx, rfl, g1, g2, g3, g4, g5, rfl, g6, g7⟩)
theorem setG_add (hkf : ∀ k v, knd.is k v = true → kf v = k) {k : κ} {v : Value} {Q : Bool → Shared → Prop} (hv : knd.is k v = true) (hsc : v.scannable = true) (R : SetG knd kf s.heap a S n) (room : n + 1 < scanBound)
    (hQ : ∀ h', Heap.SameBut a s.heap h' → SetG knd kf h' a (fun j => S j || decide (j = k)) (if S k = true then n else n + 1) → Q (!S k) { s with heap := h' }) :
    wpAny (model P w) A (setAddHashed a v (knd.hash k)) Q E s := by
  obtain ⟨ob, els, ep, tab, h0, hx, hd, g1, g2, g3, g4, g5, g6, g7, g8⟩ := R
  have el : ElemsOf knd els.toList := okE_elems g1
  have ek : kf v = k := hkf k v hv
  unfold setAddHashed setAddHashedIn
  refine wpAny_holding (wpAny_bind (wpAny_setState_of h0 hd g5 ?_))
  dsimp only
  rw [byScan_of hsc g4 el]
  simp only [↓reduceIte]
  unfold setAddByScan
  refine wpAny_bind ?_
  refine wpAny_bind (wpAny_rule ?_)
  refine wpAny_bind (wpAny_setScan_of hv h0 hd g5 el ?_)
  cases hf : List.findIdx? (fun e => knd.is k e.2) els.toList with
  | some j =>
    dsimp only
    obtain ⟨hj, pj, _⟩ := List.findIdx?_eq_some_iff_getElem.mp hf
    have hS : S k = true := (g3 k).2 ((okE_mem hkf g1 k).2 ⟨els.toList[j], List.getElem_mem hj, pj⟩)
    refine wpAny_pure (wpAny_pure ?_)
    have q := hQ s.heap (Heap.SameBut.refl a s.heap) ⟨ob, els, ep, tab, h0, hx, hd, g1, g2, fun i => by
      rw [Bool.or_eq_true, decide_eq_true_eq, ← g3 i]
      exact ⟨fun z => z.elim id (fun e => e ▸ hS), .inl⟩, g4, g5, by rw [if_pos hS]; exact g6, g7, g8⟩
    rw [hS] at q
    exact q
  | none =>
    dsimp only
    have out : k ∉ keysE kf els.toList := fun z => by
      obtain ⟨e, he, q⟩ := (okE_mem hkf g1 k).1 z
      have c := List.findIdx?_eq_none_iff.mp hf e he
      rw [q] at c
      cases c
    have hS : S k = false := by
      cases q : S k with
      | false => rfl
      | true => exact absurd ((g3 k).1 q) out
    have give : ∀ (b : Bool) {s1 : Shared} {Q1 : Unit → Shared → Prop}, Q1 () s1 → wpAny (model P w) A (match b with | true => rule "set.scan.the-table-gave-way" | false => pure ()) Q1 E s1 :=
      fun b s1 Q1 q => by cases b <;> first | exact wpAny_pure q | exact wpAny_rule q
    have r1 := layNew_perm tab els (knd.hash k) v
    have r2 := layNew_fits tab els (knd.hash k) v
    have r3 := layNew_ris tab els (knd.hash k) v g7
    have r4 := layNew_led tab els (knd.hash k) v
    generalize layNew tab els (knd.hash k) v = Y at r1 r2 r3 r4 ⊢
    obtain ⟨els1, tab1, wd, gave⟩ := Y
    dsimp only at r1 r2 r3 r4 ⊢
    rw [Array.toList_push] at r1
    have pc : els1.toList.Perm ((knd.hash k, v) :: els.toList) := r1.trans (List.perm_append_singleton _ _)
    have pk : (keysE kf els1.toList).Perm (k :: keysE kf els.toList) := by
      have q := pc.map fun e : Int × Value => kf e.2
      rw [List.map_cons, ek] at q
      exact q
    have o1 : ∀ e ∈ els1.toList, OkE knd kf e := fun e he => by
      rcases List.mem_cons.mp (pc.mem_iff.mp he) with z | z
      · rw [z]; exact ⟨by rw [ek]; exact hv, by rw [ek], hsc⟩
      · exact g1 e z
    have o2 : (keysE kf els1.toList).Nodup := pk.nodup_iff.mpr (List.nodup_cons.mpr ⟨out, g2⟩)
    have o3 : ∀ i, (S i || decide (i = k)) = true ↔ i ∈ keysE kf els1.toList := fun i => by
      rw [Bool.or_eq_true, decide_eq_true_eq, g3 i, pk.mem_iff, List.mem_cons]
      exact Or.comm
    have hz : els1.size = n + 1 := by rw [← Array.length_toList, pc.length_eq, List.length_cons, Array.length_toList, g6]
    have hb : els1.size < scanBound := by rw [hz]; exact room
    have hl : w.params.followText "set-order" = true ∨ tab1.led = true := g8.imp id fun z => by rw [r4]; exact z
    have fin : ∀ h', Heap.SameBut a s.heap h' → SetG knd kf h' a (fun j => S j || decide (j = k)) els1.size → Q true { s with heap := h' } := fun h' sb r => by
      have q := hQ h' sb
      rw [hS] at q
      rw [hz] at r
      exact q r
    refine wpAny_bind (give _ ?_)
    split
    · refine wpAny_bind ?_
      rw [hashByValue_scannable 8 hsc]
      refine wpAny_pure ?_
      refine setG_tail ?_ h0 hx hd o1 o2 o3 hb ?_ ?_ ?_ ?_
      · intro b s1 Q1 q; cases b <;> first | exact wpAny_pure q | exact wpAny_rule q
      · first | (split <;> first | exact r2 | exact SetTable.fits_plain_off r2) | exact r2
      · first | (split <;> exact r3) | exact r3
      · first | (split <;> exact hl) | exact hl
      · intro h' sb r; dsimp only; exact wpAny_pure (fin h' sb r)
    · refine wpAny_bind (wpAny_pure ?_)
      simp only [↓reduceIte]
      refine setG_tail ?_ h0 hx hd o1 o2 o3 hb r2 r3 hl ?_
      · intro b s1 Q1 q; cases b <;> first | exact wpAny_pure q | exact wpAny_rule q
      · intro h' sb r; dsimp only; exact wpAny_pure (fin h' sb r)
end
end Nb
set_option Elab.async false
set_option linter.all false
set_option maxRecDepth 100000
namespace Nb
open PySem PySem.Spec PyProof.Rows L2
section
variable {P : Program} {w : World} {κ : Type} [DecidableEq κ] {knd : PySem.KeyKind P w κ} {kf : Value → κ} {a : Addr} {n : Nat} {A : Around} {E : Value → Shared → Prop} {s : Shared}
theorem setG_new {h : Heap} {xs : List κ} (h0 : h.get? a = some { cls := .type "set", dict := none, data := .set #[] 0 (.fresh 0 0 (!w.params.followText "set-order")) }) : SetG (w := w) knd kf h a (fun j => decide (j ∈ xs.take 0)) 0 := by
  refine ⟨_, #[], 0, _, h0, ⟨rfl, rfl, rfl⟩, rfl, (fun e he => by simp at he), (by simp [keysE]), (fun k => by simp [keysE]), (by decide), (by rfl), rfl, List.Pairwise.nil, ?_⟩
  show _ ∨ (!w.params.followText "set-order") = true
  cases w.params.followText "set-order" with
  | false => exact .inr rfl
  | true => exact .inl rfl
theorem setG_update (hkf : ∀ k v, knd.is k v = true → kf v = k) {I : Addr} {fp wr : List Addr} {G : Array GenState → Array GenState → Prop} {Pv : Nat → Value → Prop} {St : Nat → Shared → Prop} {R : Result → Shared → Prop}
    (Wk : WalksS P w A.in1 I fp wr G n Pv St) (Z : Addr) (hZ : Z ∉ fp) (xs : List κ) (hn : n = xs.length) (hb : xs.length + 1 < scanBound) (hval : ∀ i v, Pv i v → ∃ k, xs[i]? = some k ∧ knd.is k v = true ∧ v.scannable = true) :
    ∀ (m i : Nat) (s : Shared), n - i = m → i ≤ n → St i s → (∃ c, c ≤ i ∧ SetG knd kf s.heap Z (fun j => decide (j ∈ xs.take i)) c) →
      (∀ s' c, Moved (Z :: wr) G s s' → c ≤ n → SetG knd kf s'.heap Z (fun j => decide (j ∈ xs)) c → R (.ok (.ret .none)) s') →
      codeAny (model P w) A (.builtin "set.update.loop" ⟨[.ref Z, .ref I], []⟩) R s := by
  have hw : Z ∉ wr := fun z => hZ (Wk.sub _ z)
  have more : ∀ b ∈ wr, b ∈ Z :: wr := fun b hb => List.mem_cons_of_mem _ hb
  intro m
  induction m with
  | zero =>
    intro i s em hi st ⟨c, hc, g⟩ hR
    have ei : i = n := by omega
    subst ei
    refine codeAny_builtin F.entry_set_update_loop ?_
    rw [Around.under_plainId F.plain_set_update_loop _]
    show wpAny _ A.in1 (pyNext (.ref I) >>= _) _ _ s
    refine wpAny_bind (Wk.done s _ _ st fun s1 mv => ?_)
    show wpAny _ A.in1 (ret Value.none) _ _ s1
    have e : xs.take i = xs := List.take_of_length_le (by omega)
    rw [e] at g
    exact wpAny_pure (hR s1 c (mv.mono more) hc (g.to fun o e => mv.heap Z o hw e))
  | succ m ih =>
    intro i s em hi st ⟨c, hc, g⟩ hR
    have hlt : i < n := by omega
    refine codeAny_builtin F.entry_set_update_loop ?_
    rw [Around.under_plainId F.plain_set_update_loop _]
    show wpAny _ A.in1 (pyNext (.ref I) >>= _) _ _ s
    refine wpAny_bind (Wk.item i s _ _ hlt st fun v s1 hP st1 mv => ?_)
    obtain ⟨k, hk, hv, hsc⟩ := hval i v hP
    have g1 : SetG knd kf s1.heap Z (fun j => decide (j ∈ xs.take i)) c := g.to fun o e => mv.heap Z o hw e
    show wpAny _ A.in1 (holding [v] (setAdd Z v) >>= _) _ _ s1
    refine wpAny_bind (wpAny_holding ?_)
    unfold setAdd
    refine wpAny_holding ?_
    refine wpAny_bind (knd.pyHash hv ?_)
    refine setG_add (s := { s1 with toks := s1.toks + 1 }) hkf hv hsc g1 (by omega) fun h' sb g2 => ?_
    have g3 : SetG knd kf h' Z (fun j => decide (j ∈ xs.take (i + 1))) (if decide (k ∈ xs.take i) = true then c else c + 1) := g2.as fun j => by
      rw [List.take_add_one, hk]
      simp [List.mem_append]
    have hc3 : (if decide (k ∈ xs.take i) = true then c else c + 1) ≤ i + 1 := by
      split <;> omega
    refine wpAny_pure ⟨plainId_quiet F.plain_set_update_loop _, ih (i + 1) _ (by omega) hlt (Wk.frame _ s1 _ _ st1 (Nat.le_succ _) fun b hb o e => ?_) ⟨_, hc3, g3⟩ fun s2 c2 mv2 hc2 g4 => ?_⟩
    · rw [sb.2 b (fun z : b = Z => hZ (by rw [← z]; exact hb))]; exact e
    · refine hR s2 c2 (Moved.trans Wk.gtrans ((mv.mono more).then_heap (Nat.le_succ _) fun b o hb e => ?_) mv2) hc2 g4
      rw [sb.2 b (fun z : b = Z => hb (by rw [z]; exact List.mem_cons_self))]; exact e
set_option maxHeartbeats 3200000 in
theorem setG_list (hkf : ∀ k v, knd.is k v = true → kf v = k) {l : Addr} {items : Array Value} (xs : List κ) {Q : Value → Shared → Prop} (hh : A.handled = none) (hl : s.heap.IsList l items) (hlen : items.size = xs.length)
    (hit : ∀ (i : Nat) (v : Value), items[i]? = some v → ∃ k, xs[i]? = some k ∧ knd.is k v = true ∧ v.scannable = true) (hb : xs.length + 1 < scanBound)
    (fin : ∀ (h' : Heap) (tk c : Nat), SetG knd kf h' s.heap.objs.size (fun j => decide (j ∈ xs)) c → c ≤ xs.length → (∀ b o, s.heap.get? b = some o → h'.get? b = some o) → Q (.ref s.heap.objs.size) { s with heap := h', toks := tk }) :
    wpAny (model P w) A (call (.type "set") [.ref l]) Q E s := by
  obtain ⟨c, tl, hmro⟩ := F.called_set.mro
  have hmade := F.called_set.made
  have hsub := F.called_set.sub
  refine wpAny_call (codeAny_of_tree ?_)
  show wpAny _ _ (callAny (.type "set") _) _ _ _
  refine wpAny_pure ⟨Code.quiet_builtin _ (by decide +kernel), codeAny_builtin F.entry_type_call ?_⟩
  rw [Around.under_plain (weight_type_call_type "set" [.ref l] []) rfl]
  have h1 := F.called_set.notType
  have h2 := F.called_set.canCreate
  have hct := F.typeCall_set_1 (.ref l)
  repeat (any_goals (first | assumption | wp_step))
  refine codeAny_mono (code_set_led1 (.ref l) (E := E) (Q₁ := fun obj s1 => obj = .ref s.heap.objs.size ∧ s1 = { s with heap := s.heap.push { cls := .type "set", dict := none, data := .set #[] 0 (.fresh 0 0 (!w.params.followText "set-order")) } }) ⟨rfl, rfl⟩) fun r s1 hr => ?_
  cases r with
  | error e => exact hr
  | ok fl =>
    cases fl with
    | ret obj =>
      obtain ⟨rfl, rfl⟩ := hr
      have hS : (s.heap.push { cls := .type "set", dict := none, data := .set #[] 0 (.fresh 0 0 (!w.params.followText "set-order")) }).get? s.heap.objs.size = some { cls := .type "set", dict := none, data := .set #[] 0 (.fresh 0 0 (!w.params.followText "set-order")) } := Heap.get?_push_size _ rfl
      have hT : Shared.TypeIs { s with heap := s.heap.push { cls := .type "set", dict := none, data := .set #[] 0 (.fresh 0 0 (!w.params.followText "set-order")) } } (.ref s.heap.objs.size) "set" := ⟨_, hS, rfl⟩
      have hli := F.called_set.init.lookup
      have hbi := F.called_set.init.bind (.ref s.heap.objs.size)
      repeat (any_goals (first | assumption | wp_step))
      refine codeAny_mono (codeAny_call_builtin (R := wants (fun r s2 => r = .none ∧ ∃ h' tk c, s2 = { s with heap := h', toks := tk } ∧ SetG knd kf h' s.heap.objs.size (fun j => decide (j ∈ xs)) c ∧ c ≤ xs.length ∧
          (∀ b o, s.heap.get? b = some o → h'.get? b = some o)) E) F.called_set.init.plain F.entry_set_init (check_set_init_1 hT ?_)) fun r2 s2 hr2 => ?_
      · obtain ⟨ol, hol, hcl, nl, hdl⟩ := hl
        obtain ⟨ocls, odict, odata, oslots⟩ := ol
        simp only at hcl hdl
        subst hcl; subst hdl
        have hol' : (s.heap.push { cls := .type "set", dict := none, data := .set #[] 0 (.fresh 0 0 (!w.params.followText "set-order")) }).get? l = some { cls := .type "list", dict := odict, data := .seq items nl, slots := oslots } := Heap.get?_push_of_some _ hol
        have hsls := F.sub_list_set
        have hslf := F.sub_list_frozenset
        have hne : (Value.type "list" == Value.type "dict") = false := by decide
        have hl1 : (s.heap.push { cls := .type "set", dict := none, data := .set #[] 0 (.fresh 0 0 (!w.params.followText "set-order")) }).IsList l items := ⟨_, hol', rfl, nl, rfl⟩
        unfold Builtin.«set.__init__» noKeywords Builtin.Frozenset.updateFrom
        generalize hPI : pyIter = PI
        wp_walk
        subst hPI
        refine wpAny_pyIter_list hl1 ?_
        refine wpAny_bind (wpAny_runValue ?_)
        have hlS : l < s.heap.objs.size := Heap.lt_size hol
        have hh3 : A.in1.in1.in1.handled = none := by simp [hh]
        have hneI : l ≠ (s.heap.push { cls := .type "set", dict := none, data := .set #[] 0 (.fresh 0 0 (!w.params.followText "set-order")) }).objs.size := by
          rw [Heap.size_push]; exact Nat.ne_of_lt (Nat.lt_succ_of_lt hlS)
        have hSf : s.heap.objs.size ∉ [(s.heap.push { cls := .type "set", dict := none, data := .set #[] 0 (.fresh 0 0 (!w.params.followText "set-order")) }).objs.size, l] := by
          rw [Heap.size_push]; simp only [List.mem_cons, List.mem_singleton, List.not_mem_nil, or_false, not_or]
          exact ⟨Nat.ne_of_lt (Nat.lt_succ_self _), Nat.ne_of_gt hlS⟩
        refine setG_update hkf ((Walks.list hh3 _ l hneI items).toS) s.heap.objs.size
          hSf xs hlen hb hit (items.size - 0) 0 _ (by omega) (Nat.zero_le _)
          ⟨⟨_, Heap.get?_push_size _ rfl, rfl, rfl⟩, (hl1.push _)⟩ ?hS0 ?hR
        case hS0 =>
          exact ⟨0, Nat.le_refl 0, setG_new (Heap.get?_push_of_some _ hS)⟩
        case hR =>
          intro s' c' hm hc' hS'
          obtain ⟨h', g2, d', tk', os'⟩ := s'
          have eg : g2 = s.gens := hm.gens
          have ed : d' = s.drawn := hm.drawn
          have eo : os' = s.os := hm.os
          subst eg; subst ed; subst eo
          show wpAny _ _ _ _ _ _
          refine wpAny_pure ?_
          show wpAny _ _ (ret Value.none) _ _ _
          rw [hlen] at hc'
          refine wpAny_pure ⟨rfl, h', tk', c', rfl, hS', hc', fun b o e => ?_⟩
          have hb0 : b < s.heap.objs.size := Heap.lt_size e
          have hb2 : b ≠ (s.heap.push { cls := .type "set", dict := none, data := .set #[] 0 (.fresh 0 0 (!w.params.followText "set-order")) }).objs.size := by
            rw [Heap.size_push]; exact Nat.ne_of_lt (Nat.lt_succ_of_lt hb0)
          refine hm.heap b o ?_ (Heap.get?_push_of_some _ (Heap.get?_push_of_some _ e))
          simp only [List.mem_cons, List.mem_singleton, List.not_mem_nil, or_false, not_or]
          exact ⟨Nat.ne_of_lt hb0, hb2⟩
      · cases r2 with
        | error e => exact hr2
        | ok fl2 =>
          cases fl2 with
          | ret r =>
            obtain ⟨rfl, h', tk, c', rfl, hS', hc', hk'⟩ := hr2
            repeat (any_goals (first | assumption | wp_step))
            exact fin _ _ _ hS' hc' hk'
          | _ => exact hr2.elim
    | _ => exact hr.elim
end
end Nb
set_option Elab.async false
set_option linter.all false
set_option maxRecDepth 100000
namespace Nb
open PySem PySem.Spec PyProof.Rows L2

/-- a value with all that hangs on it -/
inductive D where
  | non | bl (b : Bool) | int (i : Int) | str (s : Str)
  | lst (ds : List D) | tup (ds : List D)
  | dct (kvs : List (Key × D))
  | ins (c : Str) (ds : List D)
  | scr (ns : List Int)
  | src
  | ty (n : String)
  | cls (c : Str)
  | exn (c : Str) (ds : List D)

structure Gx where
  K : PySem.W.Frag
  ca : Str → Addr
  fl : Str → List Str

abbrev Fz := Addr → Prop
/-- a list, a tuple that stays as it is -/
def LstAt (F : Fz) (H : Hp) (a : Addr) (xs : List V) : Prop := F a ∧ H a = some (.lst xs)
def TupAt (K : PySem.W.Frag) (F : Fz) (H : Hp) (a : Addr) (xs : List V) : Prop :=
  (F a ∧ H a = some (.tup xs)) ∨ ∃ (o : Obj) (its : Array Value) (n : Nat), K.lookup a = some o ∧ o.cls = .type "tuple" ∧ o.data = .seq its n ∧ its.size ≤ sizeLine ∧ Vals xs its.toList
def ScrAt (K : PySem.W.Frag) (F : Fz) (H : Hp) (a : Addr) (xs : List V) : Prop :=
  (F a ∧ Rd H a (.lst xs)) ∨ ∃ (o : Obj) (its : Array Value) (n : Nat), K.lookup a = some o ∧ o.cls = .type "list" ∧ o.dict = none ∧ o.data = .seq its n ∧ its.size ≤ sizeLine ∧ Vals xs its.toList
theorem ScrAt.sq {K F H a xs} (h : ScrAt K F H a xs) : SqL K H a xs := h.imp (·.2) id
theorem LstAt.sq {K F H a xs} (h : LstAt F H a xs) : SqL K H a xs := .of h.2
theorem TupAt.sq {K F H a xs} (h : TupAt K F H a xs) : SqT K H a xs := h.imp (fun q => .inl q.2) id

/-- an exception of an own class, made: vs its fields -/
def ExnAt (G : Gx) (F : Fz) (H : Hp) (a : Addr) (c : Str) (vs : List V) : Prop :=
  F a ∧ ((vs = [] ∧ H a = some (exo a (G.ca c) none)) ∨ ∃ dx fs, F dx ∧ H a = some (exo a (G.ca c) (some dx)) ∧ H dx = some (exd dx fs) ∧ ∀ (i : Nat) f w, (G.fl c)[i]? = some f → vs[i]? = some w → fs.lookup f = some w)
mutual
def Rep (G : Gx) (r : Option Addr) (F : Fz) (H : Hp) : D → V → Prop
  | .non, v => v = .non
  | .bl b, v => v = .bl b
  | .int i, v => v = .int i
  | .str s, v => v = .str s
  | .lst ds, v => ∃ a vs, v = .ref a ∧ LstAt F H a vs ∧ RepL G r F H ds vs
  | .tup ds, v => ∃ a vs, v = .ref a ∧ TupAt G.K F H a vs ∧ RepL G r F H ds vs
  | .dct kvs, v => ∃ a ws, v = .ref a ∧ F a ∧ Rd H a (.dK ws) ∧ RepK G r F H kvs ws
  | .ins c ds, v => ∃ a dx vs, v = .ref a ∧ F a ∧ F dx ∧ H a = some (.ins (G.ca c) dx ((G.fl c).zip vs)) ∧ (G.fl c).length = vs.length ∧ RepL G r F H ds vs
  | .scr ns, v => ∃ a, v = .ref a ∧ ScrAt G.K F H a (ns.map V.int)
  | .src, v => ∃ a, r = some a ∧ v = .ref a
  | .ty n, v => v = .ty n
  | .cls c, v => v = .ref (G.ca c)
  | .exn c ds, v => ∃ a vs, v = .ref a ∧ ExnAt G F H a c vs ∧ RepL G r F H ds vs
def RepL (G : Gx) (r : Option Addr) (F : Fz) (H : Hp) : List D → List V → Prop
  | [], vs => vs = []
  | d :: ds, vs => ∃ w ws, vs = w :: ws ∧ Rep G r F H d w ∧ RepL G r F H ds ws
def RepK (G : Gx) (r : Option Addr) (F : Fz) (H : Hp) : List (Key × D) → List (Key × V) → Prop
  | [], vs => vs = []
  | (k, d) :: ds, vs => ∃ w ws, vs = (k, w) :: ws ∧ Rep G r F H d w ∧ RepK G r F H ds ws
end

/-- what of an address may change without harm to what hangs on it -/
def Kp (H H' : Hp) (a : Addr) : Prop := (∀ u, (∀ o w, u ≠ .frz o w) → Rd H a u → Rd H' a u) ∧ (∀ C dx fs, H a = some (.ins C dx fs) → H' a = some (.ins C dx fs)) ∧ (∀ xs, H a = some (.lst xs) → H' a = some (.lst xs)) ∧ (∀ xs, H a = some (.tup xs) → H' a = some (.tup xs)) ∧ ∀ p, H a = some (.ext p) → H' a = some (.ext p)
theorem Kp.of {H H' : Hp} {a : Addr} (h : ∀ o, H a = some o → H' a = some o) : Kp H H' a :=
  ⟨fun u _ k => k.elim (fun e => .inl (h _ e)) fun ⟨o, e⟩ => .inr ⟨o, h _ e⟩, fun _ _ _ e => h _ e, fun _ e => h _ e, fun _ e => h _ e, fun _ e => h _ e⟩
section
variable {G : Gx} {r : Option Addr} {F F' : Fz} {H H' : Hp}
theorem LstAt.mono {a xs} (h : LstAt F H a xs) (m : ∀ a, F a → F' a) (k : ∀ a, F a → Kp H H' a) : LstAt F' H' a xs :=
  ⟨m _ h.1, (k _ h.1).2.2.1 _ h.2⟩
theorem TupAt.mono {K a xs} (h : TupAt K F H a xs) (m : ∀ a, F a → F' a) (k : ∀ a, F a → Kp H H' a) : TupAt K F' H' a xs :=
  h.imp (fun ⟨f, e⟩ => ⟨m _ f, (k _ f).2.2.2.1 _ e⟩) id
theorem ExnAt.mono {a c vs} (h : ExnAt G F H a c vs) (m : ∀ a, F a → F' a) (k : ∀ a, F a → Kp H H' a) : ExnAt G F' H' a c vs := by
  obtain ⟨f, h⟩ := h
  refine ⟨m _ f, ?_⟩
  rcases h with ⟨h1, h2⟩ | ⟨dx, fs, f2, h1, h2, h3⟩
  · exact .inl ⟨h1, (k _ f).2.2.2.2 _ h2⟩
  · exact .inr ⟨dx, fs, m _ f2, (k _ f).2.2.2.2 _ h1, (k _ f2).2.2.2.2 _ h2, h3⟩
mutual
theorem Rep.mono (m : ∀ a, F a → F' a) (k : ∀ a, F a → Kp H H' a) : ∀ (d : D) (v : V), Rep G r F H d v → Rep G r F' H' d v
  | .non, v, h => by simpa only [Rep] using h
  | .bl b, v, h => by simpa only [Rep] using h
  | .int i, v, h => by simpa only [Rep] using h
  | .str s, v, h => by simpa only [Rep] using h
  | .lst ds, v, h => by
    simp only [Rep] at h ⊢
    obtain ⟨a, vs, e, l, q⟩ := h
    exact ⟨a, vs, e, l.mono m k, RepL.mono m k ds vs q⟩
  | .tup ds, v, h => by
    simp only [Rep] at h ⊢
    obtain ⟨a, vs, e, l, q⟩ := h
    exact ⟨a, vs, e, l.mono m k, RepL.mono m k ds vs q⟩
  | .dct kvs, v, h => by
    simp only [Rep] at h ⊢
    obtain ⟨a, vs, e, f, l, q⟩ := h
    exact ⟨a, vs, e, m _ f, (k _ f).1 _ (fun _ _ z => nomatch z) l, RepK.mono m k kvs vs q⟩
  | .ins c ds, v, h => by
    simp only [Rep] at h ⊢
    obtain ⟨a, dx, vs, e, f, fd, l, z, q⟩ := h
    exact ⟨a, dx, vs, e, m _ f, m _ fd, (k _ f).2.1 _ _ _ l, z, RepL.mono m k ds vs q⟩
  | .scr ns, v, h => by
    simp only [Rep] at h ⊢
    obtain ⟨a, e, l⟩ := h
    exact ⟨a, e, l.imp (fun ⟨f, l⟩ => ⟨m _ f, (k _ f).1 _ (fun _ _ z => nomatch z) l⟩) id⟩
  | .src, v, h => by simpa only [Rep] using h
  | .ty n, v, h => by simpa only [Rep] using h
  | .cls c, v, h => by simpa only [Rep] using h
  | .exn c ds, v, h => by
    simp only [Rep] at h ⊢
    obtain ⟨a, vs, e, l, q⟩ := h
    exact ⟨a, vs, e, l.mono m k, RepL.mono m k ds vs q⟩
theorem RepL.mono (m : ∀ a, F a → F' a) (k : ∀ a, F a → Kp H H' a) : ∀ (ds : List D) (vs : List V), RepL G r F H ds vs → RepL G r F' H' ds vs
  | [], vs, h => by simpa only [RepL] using h
  | d :: ds, vs, h => by
    simp only [RepL] at h ⊢
    obtain ⟨w, ws, e, a, b⟩ := h
    exact ⟨w, ws, e, Rep.mono m k d w a, RepL.mono m k ds ws b⟩
theorem RepK.mono (m : ∀ a, F a → F' a) (k : ∀ a, F a → Kp H H' a) : ∀ (ds : List (Key × D)) (vs : List (Key × V)), RepK G r F H ds vs → RepK G r F' H' ds vs
  | [], vs, h => by simpa only [RepK] using h
  | (j, d) :: ds, vs, h => by
    simp only [RepK] at h ⊢
    obtain ⟨w, ws, e, a, b⟩ := h
    exact ⟨w, ws, e, Rep.mono m k d w a, RepK.mono m k ds ws b⟩
end
/-! lists of such -/
theorem RepL.length : ∀ {ds : List D} {vs : List V}, RepL G r F H ds vs → ds.length = vs.length
  | [], vs, h => by simp only [RepL] at h; subst h; rfl
  | d :: ds, vs, h => by
    simp only [RepL] at h
    obtain ⟨w, ws, e, a, b⟩ := h
    subst e
    simp [RepL.length b]
theorem RepL.get : ∀ {ds : List D} {vs : List V} {i : Nat} {d : D}, RepL G r F H ds vs → ds[i]? = some d → ∃ v, vs[i]? = some v ∧ Rep G r F H d v
  | [], vs, i, d, h, e => by simp at e
  | d0 :: ds, vs, 0, d, h, e => by
    simp only [RepL] at h
    obtain ⟨w, ws, e1, a, b⟩ := h
    subst e1
    simp at e
    subst e
    exact ⟨w, rfl, a⟩
  | d0 :: ds, vs, i + 1, d, h, e => by
    simp only [RepL] at h
    obtain ⟨w, ws, e1, a, b⟩ := h
    subst e1
    simp at e
    obtain ⟨v, e2, q⟩ := RepL.get b e
    exact ⟨v, by simpa using e2, q⟩
theorem RepL.getV {ds : List D} {vs : List V} {i : Nat} {v : V} (h : RepL G r F H ds vs) (e : vs[i]? = some v) : ∃ d, ds[i]? = some d ∧ Rep G r F H d v := by
  have hl := h.length
  have hi : i < vs.length := (List.getElem?_eq_some_iff.mp e).1
  have e1 : ds[i]? = some (ds[i]'(by omega)) := by simp
  obtain ⟨v', e2, q⟩ := h.get e1
  rw [e] at e2
  cases e2
  exact ⟨_, e1, q⟩
theorem RepL.append : ∀ {ds es : List D} {vs ws : List V}, RepL G r F H ds vs → RepL G r F H es ws → RepL G r F H (ds ++ es) (vs ++ ws)
  | [], es, vs, ws, h, k => by simp only [RepL] at h; subst h; simpa using k
  | d :: ds, es, vs, ws, h, k => by
    simp only [RepL] at h
    obtain ⟨w, vs', e, a, b⟩ := h
    subst e
    simp only [List.cons_append, RepL]
    exact ⟨w, _, rfl, a, RepL.append b k⟩
theorem RepL.one {d : D} {v : V} (h : Rep G r F H d v) : RepL G r F H [d] [v] := by
  simp only [RepL]
  exact ⟨v, [], rfl, h, rfl⟩
theorem RepL.take : ∀ {ds : List D} {vs : List V} (n : Nat), RepL G r F H ds vs → RepL G r F H (ds.take n) (vs.take n)
  | [], vs, n, h => by simp only [RepL] at h; subst h; simp [RepL]
  | d :: ds, vs, 0, h => by simp [RepL]
  | d :: ds, vs, n + 1, h => by
    simp only [RepL] at h
    obtain ⟨w, ws, e, a, b⟩ := h
    subst e
    simp only [List.take_succ_cons, RepL]
    exact ⟨w, _, rfl, a, RepL.take n b⟩
theorem RepL.drop : ∀ {ds : List D} {vs : List V} (n : Nat), RepL G r F H ds vs → RepL G r F H (ds.drop n) (vs.drop n)
  | [], vs, n, h => by simp only [RepL] at h; subst h; simp [RepL]
  | d :: ds, vs, 0, h => by simpa using h
  | d :: ds, vs, n + 1, h => by
    simp only [RepL] at h
    obtain ⟨w, ws, e, a, b⟩ := h
    subst e
    simpa using RepL.drop n b
theorem RepL.set : ∀ {ds : List D} {vs : List V} (n : Nat) {d : D} {v : V}, RepL G r F H ds vs → Rep G r F H d v → RepL G r F H (ds.set n d) (vs.set n v)
  | [], vs, n, d, v, h, k => by simp only [RepL] at h; subst h; simp [RepL]
  | d0 :: ds, vs, 0, d, v, h, k => by
    simp only [RepL] at h
    obtain ⟨w, ws, e, a, b⟩ := h
    subst e
    simp only [List.set_cons_zero, RepL]
    exact ⟨v, ws, rfl, k, b⟩
  | d0 :: ds, vs, n + 1, d, v, h, k => by
    simp only [RepL] at h
    obtain ⟨w, ws, e, a, b⟩ := h
    subst e
    simp only [List.set_cons_succ, RepL]
    exact ⟨w, _, rfl, a, RepL.set n b k⟩
theorem RepL.reverse : ∀ {ds : List D} {vs : List V}, RepL G r F H ds vs → RepL G r F H ds.reverse vs.reverse
  | [], vs, h => by simp only [RepL] at h; subst h; simp [RepL]
  | d :: ds, vs, h => by
    simp only [RepL] at h
    obtain ⟨w, ws, e, a, b⟩ := h
    subst e
    simp only [List.reverse_cons]
    exact (RepL.reverse b).append (RepL.one a)
/-- flat lists -/
theorem RepL.strs : ∀ {xs : List Str} {vs : List V}, RepL G r F H (xs.map D.str) vs ↔ vs = xs.map V.str
  | [], vs => by simp [RepL]
  | x :: xs, vs => by
    simp only [List.map_cons, RepL, Rep]
    constructor
    · rintro ⟨w, ws, rfl, rfl, h⟩
      rw [RepL.strs.mp h]
    · rintro rfl
      exact ⟨_, _, rfl, rfl, RepL.strs.mpr rfl⟩
theorem RepL.ints : ∀ {xs : List Int} {vs : List V}, RepL G r F H (xs.map D.int) vs ↔ vs = xs.map V.int
  | [], vs => by simp [RepL]
  | x :: xs, vs => by
    simp only [List.map_cons, RepL, Rep]
    constructor
    · rintro ⟨w, ws, rfl, rfl, h⟩
      rw [RepL.ints.mp h]
    · rintro rfl
      exact ⟨_, _, rfl, rfl, RepL.ints.mpr rfl⟩
theorem RepL.bls : ∀ {xs : List Bool} {vs : List V}, RepL G r F H (xs.map D.bl) vs ↔ vs = xs.map V.bl
  | [], vs => by simp [RepL]
  | x :: xs, vs => by
    simp only [List.map_cons, RepL, Rep]
    constructor
    · rintro ⟨w, ws, rfl, rfl, h⟩
      rw [RepL.bls.mp h]
    · rintro rfl
      exact ⟨_, _, rfl, rfl, RepL.bls.mpr rfl⟩
/-! dicts -/
/-- the value at a key, the dict with another value there, as the layer's own -/
def valD (kvs : List (Key × D)) (k : Key) : Option D := (kvs.find? fun kv => decide (kv.1 = k)).map (·.2)
def putD (kvs : List (Key × D)) (k : Key) (d : D) : List (Key × D) :=
  if kvs.any (fun kv => decide (kv.1 = k)) then kvs.map (fun kv => if kv.1 = k then (kv.1, d) else kv) else kvs ++ [(k, d)]
theorem RepK.val : ∀ {kvs : List (Key × D)} {ws : List (Key × V)}, RepK G r F H kvs ws → ∀ k, (valD kvs k = none ∧ valV ws k = none) ∨ ∃ d v, valD kvs k = some d ∧ valV ws k = some v ∧ Rep G r F H d v
  | [], ws, h, k => by simp only [RepK] at h; subst h; exact .inl ⟨rfl, rfl⟩
  | (j, d) :: r, ws, h, k => by
    simp only [RepK] at h
    obtain ⟨w, ws', e, a, b⟩ := h
    subst e
    by_cases hj : j = k
    · subst hj
      exact .inr ⟨d, w, by simp [valD], by simp [valV], a⟩
    · rcases RepK.val b k with ⟨h1, h2⟩ | ⟨d', v', h1, h2, q⟩
      · exact .inl ⟨by simpa [valD, hj] using h1, by simpa [valV, hj] using h2⟩
      · exact .inr ⟨d', v', by simpa [valD, hj] using h1, by simpa [valV, hj] using h2, q⟩
theorem RepK.length : ∀ {kvs : List (Key × D)} {ws : List (Key × V)}, RepK G r F H kvs ws → kvs.length = ws.length
  | [], ws, h => by simp only [RepK] at h; subst h; rfl
  | (j, d) :: r, ws, h => by
    simp only [RepK] at h
    obtain ⟨w, ws', e, a, b⟩ := h
    subst e
    simp [RepK.length b]
theorem RepK.keys : ∀ {kvs : List (Key × D)} {ws : List (Key × V)}, RepK G r F H kvs ws → kvs.map (·.1) = ws.map (·.1)
  | [], ws, h => by simp only [RepK] at h; subst h; rfl
  | (j, d) :: r, ws, h => by
    simp only [RepK] at h
    obtain ⟨w, ws', e, a, b⟩ := h
    subst e
    simp [RepK.keys b]
theorem RepK.append : ∀ {ds es : List (Key × D)} {vs ws : List (Key × V)}, RepK G r F H ds vs → RepK G r F H es ws → RepK G r F H (ds ++ es) (vs ++ ws)
  | [], es, vs, ws, h, k => by simp only [RepK] at h; subst h; simpa using k
  | (j, d) :: ds, es, vs, ws, h, k => by
    simp only [RepK] at h
    obtain ⟨w, vs', e, a, b⟩ := h
    subst e
    simp only [List.cons_append, RepK]
    exact ⟨w, _, rfl, a, RepK.append b k⟩
theorem RepK.repl {d : D} {v : V} (q : Rep G r F H d v) (k : Key) : ∀ {ds : List (Key × D)} {vs : List (Key × V)}, RepK G r F H ds vs →
    RepK G r F H (ds.map fun kv => if kv.1 = k then (kv.1, d) else kv) (vs.map fun kv => if kv.1 = k then (kv.1, v) else kv)
  | [], vs, h => by simp only [RepK] at h; subst h; simp [RepK]
  | (j, d') :: ds, vs, h => by
    simp only [RepK] at h
    obtain ⟨w, vs', e, a, b⟩ := h
    subst e
    have ih := RepK.repl q k b
    by_cases hj : j = k
    · simp only [List.map_cons, hj, if_true, RepK]
      exact ⟨v, _, rfl, q, ih⟩
    · simp only [List.map_cons, hj, if_false, RepK]
      exact ⟨w, _, rfl, a, ih⟩
theorem RepK.any {kvs : List (Key × D)} {ws : List (Key × V)} (h : RepK G r F H kvs ws) (k : Key) : (kvs.any fun kv => decide (kv.1 = k)) = ws.any fun kv => decide (kv.1 = k) := by
  have e := h.keys
  have a : ∀ {α : Type} (l : List (Key × α)), (l.any fun kv => decide (kv.1 = k)) = (l.map (·.1)).any fun j => decide (j = k) := fun l => by simp [List.any_map, Function.comp_def]
  rw [a, a, e]
theorem RepK.put {kvs : List (Key × D)} {ws : List (Key × V)} {d : D} {v : V} (h : RepK G r F H kvs ws) (k : Key) (q : Rep G r F H d v) : RepK G r F H (putD kvs k d) (putK ws k v) := by
  unfold putD putK
  rw [h.any k]
  split
  · exact RepK.repl q k h
  · refine h.append ?_
    simp only [RepK]
    exact ⟨v, [], rfl, q, rfl⟩
end
end Nb
set_option Elab.async false
set_option linter.all false
set_option maxRecDepth 100000
namespace Nb
open PySem PySem.Spec PyProof.Rows L2

/-- what a draw leaves: none is stuck -/
abbrev Sr := Option (List Int)
def M (α : Type) := Sr → Option (α × Sr)
@[inline] def M.pure {α : Type} (a : α) : M α := fun s => some (a, s)
@[inline] def M.bind {α β : Type} (m : M α) (f : α → M β) : M β := fun s => match m s with
  | none => none
  | some (a, s') => f a s'
instance : Monad M where
  pure := M.pure
  bind := M.bind
theorem M.pure_ap {α : Type} (a : α) (s : Sr) : (pure a : M α) s = some (a, s) := rfl
theorem M.bind_ap {α β : Type} (m : M α) (f : α → M β) (s : Sr) : (m >>= f) s = match m s with
  | none => none
  | some (a, s') => f a s' := rfl
theorem M.bind_some {α β : Type} {m : M α} {f : α → M β} {s s' : Sr} {b : β} (h : (m >>= f) s = some (b, s')) : ∃ a s1, m s = some (a, s1) ∧ f a s1 = some (b, s') := by
  rw [M.bind_ap] at h
  cases e : m s with
  | none => rw [e] at h; cases h
  | some p => rw [e] at h; exact ⟨p.1, p.2, rfl, h⟩
def opt {α : Type} (o : Option α) : M α := fun s => o.map fun a => (a, s)
theorem opt_ap {α : Type} (o : Option α) (s : Sr) : opt o s = o.map fun a => (a, s) := rfl
theorem opt_some {α : Type} {o : Option α} {s s' : Sr} {a : α} (h : opt o s = some (a, s')) : o = some a ∧ s' = s := by
  cases o with
  | none => cases h
  | some b => cases h; exact ⟨rfl, rfl⟩

def SrcAt (r : Option Addr) (F : Fz) (H : Hp) : Sr → Prop
  | none => r = none
  | some ns => ∃ a, r = some a ∧ H a = some (.lst (ns.map V.int)) ∧ ¬ F a
structure Ok1 (r : Option Addr) (F : Fz) (H : Hp) (R : Sr) : Prop where
  fz : ∀ a, F a → ∃ o, H a = some o
  sr : SrcAt r F H R
structure Ext (r : Option Addr) (F : Fz) (H : Hp) (F' : Fz) (H' : Hp) : Prop where
  mono : ∀ a, F a → F' a
  same : ∀ a o, H a = some o → r ≠ some a → H' a = some o
  new : ∀ a, F' a → F a ∨ H a = none
theorem Ext.refl {r F H} : Ext r F H F H := ⟨fun _ h => h, fun _ _ h _ => h, fun _ h => .inl h⟩
theorem Ok1.nofz {r F H R} (o : Ok1 r F H R) {a : Addr} (h : F a) : r ≠ some a := by
  intro e
  have s := o.sr
  cases R with
  | none => rw [show r = none from s] at e; cases e
  | some ns =>
    obtain ⟨b, eb, _, nf⟩ := s
    rw [eb] at e
    cases e
    exact nf h
theorem Ok1.srcIn {r F H R} (o : Ok1 r F H R) {a : Addr} (e : r = some a) : ∃ u, H a = some u := by
  have s := o.sr
  cases R with
  | none => rw [show r = none from s] at e; cases e
  | some ns =>
    obtain ⟨b, eb, h, _⟩ := s
    rw [eb] at e
    cases e
    exact ⟨_, h⟩
theorem Ext.trans {r F H F1 H1 F2 H2 R1} (a : Ext r F H F1 H1) (o : Ok1 r F1 H1 R1) (b : Ext r F1 H1 F2 H2) : Ext r F H F2 H2 where
  mono := fun c h => b.mono c (a.mono c h)
  same := fun c u h n => b.same c u (a.same c u h n) n
  new := fun c h => by
    rcases b.new c h with h | h
    · exact a.new c h
    · refine .inr ?_
      cases q : H c with
      | none => rfl
      | some u =>
        by_cases n : r = some c
        · obtain ⟨w, e⟩ := o.srcIn n
          rw [e] at h
          cases h
        · rw [a.same c u q n] at h
          cases h
section
variable {G : Gx} {r : Option Addr} {F F' : Fz} {H H' : Hp} {R : Sr}
theorem Ext.kp (o : Ok1 r F H R) (e : Ext r F H F' H') : ∀ a, F a → Kp H H' a := fun a h => .of fun u q => e.same a u q (o.nofz h)
theorem Ext.rep (o : Ok1 r F H R) (e : Ext r F H F' H') {d : D} {v : V} (h : Rep G r F H d v) : Rep G r F' H' d v := Rep.mono e.mono (e.kp o) d v h
theorem Ext.repL (o : Ok1 r F H R) (e : Ext r F H F' H') {d : List D} {v : List V} (h : RepL G r F H d v) : RepL G r F' H' d v := RepL.mono e.mono (e.kp o) d v h
theorem Ext.repK (o : Ok1 r F H R) (e : Ext r F H F' H') {d : List (Key × D)} {v : List (Key × V)} (h : RepK G r F H d v) : RepK G r F' H' d v := RepK.mono e.mono (e.kp o) d v h
/-- a new object that stays as it is -/
theorem new_frozen {p : Addr} {o : HO} (k : Ok1 r F H R) (hp : H p = none) : Ok1 r (fun a => F a ∨ a = p) (upd H p o) R ∧ Ext r F H (fun a => F a ∨ a = p) (upd H p o) := by
  have ne : ∀ a u, H a = some u → a ≠ p := fun a u e z => by rw [z, hp] at e; cases e
  refine ⟨⟨fun a h => ?_, ?_⟩, ⟨fun a h => .inl h, fun a u h n => ?_, fun a h => ?_⟩⟩
  · by_cases e : a = p
    · exact ⟨o, by rw [e]; exact upd_same⟩
    · obtain ⟨u, q⟩ := k.fz a (h.resolve_right e)
      exact ⟨u, by rw [upd_ne e]; exact q⟩
  · have s := k.sr
    cases R with
    | none => exact s
    | some ns =>
      obtain ⟨a, e, q, nf⟩ := s
      exact ⟨a, e, by rw [upd_ne (ne _ _ q)]; exact q, fun z => z.elim nf (ne _ _ q)⟩
  · rw [upd_ne (ne _ _ h)]; exact h
  · rcases h with h | h
    · exact .inl h
    · exact .inr (by rw [h]; exact hp)
/-- a new object of this function's own -/
theorem new_own {p : Addr} {o : HO} (k : Ok1 r F H R) (hp : H p = none) : Ok1 r F (upd H p o) R ∧ Ext r F H F (upd H p o) := by
  have ne : ∀ a u, H a = some u → a ≠ p := fun a u e z => by rw [z, hp] at e; cases e
  refine ⟨⟨fun a h => ?_, ?_⟩, ⟨fun a h => h, fun a u h n => ?_, fun a h => .inl h⟩⟩
  · obtain ⟨u, q⟩ := k.fz a h
    exact ⟨u, by rw [upd_ne (ne _ _ q)]; exact q⟩
  · have s := k.sr
    cases R with
    | none => exact s
    | some ns =>
      obtain ⟨a, e, q, nf⟩ := s
      exact ⟨a, e, by rw [upd_ne (ne _ _ q)]; exact q, nf⟩
  · rw [upd_ne (ne _ _ h)]; exact h
theorem rep_lst {p : Addr} {ds : List D} {vs : List V} (k : Ok1 r F H R) (hp : H p = none) (h : RepL G r F H ds vs) : Rep G r (fun a => F a ∨ a = p) (upd H p (.lst vs)) (.lst ds) (.ref p) := by
  simp only [Rep]
  exact ⟨p, vs, rfl, ⟨.inr rfl, upd_same⟩, (new_frozen k hp).2.repL k h⟩
theorem rep_tup {p : Addr} {ds : List D} {vs : List V} (k : Ok1 r F H R) (hp : H p = none) (h : RepL G r F H ds vs) : Rep G r (fun a => F a ∨ a = p) (upd H p (.tup vs)) (.tup ds) (.ref p) := by
  simp only [Rep]
  exact ⟨p, vs, rfl, .inl ⟨.inr rfl, upd_same⟩, (new_frozen k hp).2.repL k h⟩
theorem rep_dct {p : Addr} {ds : List (Key × D)} {vs : List (Key × V)} (k : Ok1 r F H R) (hp : H p = none) (h : RepK G r F H ds vs) : Rep G r (fun a => F a ∨ a = p) (upd H p (.dK vs)) (.dct ds) (.ref p) := by
  simp only [Rep]
  exact ⟨p, vs, rfl, .inr rfl, .of upd_same, (new_frozen k hp).2.repK k h⟩
end

/-! ### expressions -/
abbrev Tau := List (Option D)
abbrev ME := Tau → M D
def HoldT (G : Gx) (r : Option Addr) (F : Fz) (H : Hp) (σ : L2.St) (τ : Tau) : Prop := σ.length = τ.length ∧ ∀ (i : Nat) d, τ[i]? = some (some d) → ∃ v, σ[i]? = some (some v) ∧ Rep G r F H d v
theorem HoldT.ext {G r F H F' H' σ τ R} (h : HoldT G r F H σ τ) (o : Ok1 r F H R) (e : Ext r F H F' H') : HoldT G r F' H' σ τ := ⟨h.1, fun i d q =>
  let ⟨v, a, b⟩ := h.2 i d q
  ⟨v, a, e.rep o b⟩⟩
/-- an expression gives what the mirror gives -/
def tE (G : Gx) (m : ME) : TE := fun σ H Q => ∃ r F τ R d R', HoldT G r F H σ τ ∧ Ok1 r F H R ∧ m τ R = some (d, R') ∧ ∀ v H' F', Rep G r F' H' d v → Ok1 r F' H' R' → Ext r F H F' H' → Q v H'
def tT (G : Gx) (m : Tau → M Bool) : TT := fun σ H Q => ∃ r F τ R b R', HoldT G r F H σ τ ∧ Ok1 r F H R ∧ m τ R = some (b, R') ∧ ∀ H' F', Ok1 r F' H' R' → Ext r F H F' H' → Q b H'
def tA (G : Gx) (m : Tau → M (List D)) : TA := fun σ H Q => ∃ r F τ R ds R', HoldT G r F H σ τ ∧ Ok1 r F H R ∧ m τ R = some (ds, R') ∧ ∀ vs H' F', RepL G r F' H' ds vs → Ok1 r F' H' R' → Ext r F H F' H' → Q vs H'
section
variable {X : Cx} {G : Gx}
theorem PE.mono {e : Expr} {t t' : TE} (h : PE X e t) (k : ∀ σ H Q, t' σ H Q → t σ H Q) : PE X e t' := ⟨fun pins s σ H Q I q => h.run pins s σ H Q I (k σ H Q q)⟩
theorem PT.mono {e : Expr} {t t' : TT} (h : PT X e t) (k : ∀ σ H Q, t' σ H Q → t σ H Q) : PT X e t' := ⟨fun pins s σ H Q I q => h.run pins s σ H Q I (k σ H Q q)⟩
theorem PW.mono {e : Expr} {t t' : TT} (h : PW X e t) (k : ∀ σ H Q, t' σ H Q → t σ H Q) : PW X e t' := ⟨fun wh pins s σ H Q I q => h.run wh pins s σ H Q I (k σ H Q q)⟩
theorem PA.mono {e : List Expr} {t t' : TA} (h : PA X e t) (k : ∀ σ H Q, t' σ H Q → t σ H Q) : PA X e t' := ⟨fun p pins s σ H Q I q => h.run p pins s σ H Q I (k σ H Q q)⟩
theorem PS.mono {e : Stmt} {t t' : TS} (h : PS X e t) (k : ∀ D σ H, t' D σ H → t D σ H) : PS X e t' := ⟨fun pins s σ H D I q => h.run pins s σ H D I (k D σ H q)⟩
theorem PSs.mono {e : List Stmt} {t t' : TS} (h : PSs X e t) (k : ∀ D σ H, t' D σ H → t D σ H) : PSs X e t' := ⟨fun pins s σ H D I q => h.run pins s σ H D I (k D σ H q)⟩
theorem PE.or {e : Expr} {t t' : TE} (h : PE X e t) (h' : PE X e t') : PE X e (fun σ H Q => t σ H Q ∨ t' σ H Q) := ⟨fun pins s σ H Q I q => q.elim (h.run pins s σ H Q I) (h'.run pins s σ H Q I)⟩
theorem PS.or {e : Stmt} {t t' : TS} (h : PS X e t) (h' : PS X e t') : PS X e (fun D σ H => t D σ H ∨ t' D σ H) := ⟨fun pins s σ H D I q => q.elim (h.run pins s σ H D I) (h'.run pins s σ H D I)⟩

theorem tE.one {ma : ME} {k : D → M D} {σ : L2.St} {H : Hp} {Q : VK} {P : V → Hp → Prop} (h : tE G (fun τ => ma τ >>= k) σ H Q)
    (hk : ∀ r F R x u H1 d R', Ok1 r F H1 R → Rep G r F H1 x u → k x R = some (d, R') → (∀ w H' F', Rep G r F' H' d w → Ok1 r F' H' R' → Ext r F H1 F' H' → Q w H') → P u H1) : tE G ma σ H P := by
  obtain ⟨r, F, τ, R, d, R', ht, ho, e, q⟩ := h
  obtain ⟨x, R1, e1, e2⟩ := M.bind_some e
  exact ⟨r, F, τ, R, x, R1, ht, ho, e1, fun u H1 F1 ru o1 x1 => hk r F1 R1 x u H1 d R' o1 ru e2 fun w H' F' rw o' x' => q w H' F' rw o' (x1.trans o1 x')⟩
theorem tE.two {ma mb : ME} {k : D → D → M D} {σ : L2.St} {H : Hp} {Q : VK} {P : V → V → Hp → Prop} (h : tE G (fun τ => do let x ← ma τ; let y ← mb τ; k x y) σ H Q)
    (hk : ∀ r F R x y u v H1 d R', Ok1 r F H1 R → Rep G r F H1 x u → Rep G r F H1 y v → k x y R = some (d, R') → (∀ w H' F', Rep G r F' H' d w → Ok1 r F' H' R' → Ext r F H1 F' H' → Q w H') → P u v H1) :
    tE G ma σ H fun u H1 => tE G mb σ H1 fun v H2 => P u v H2 := by
  obtain ⟨r, F, τ, R, d, R', ht, ho, e, q⟩ := h
  obtain ⟨x, R1, e1, e2⟩ := M.bind_some e
  obtain ⟨y, Rb, e3, e4⟩ := M.bind_some e2
  refine ⟨r, F, τ, R, x, R1, ht, ho, e1, fun u H1 F1 ru o1 x1 => ⟨r, F1, τ, R1, y, Rb, ht.ext ho x1, o1, e3, fun v H2 F2 rv o2 x2 => ?_⟩⟩
  exact hk r F2 Rb x y u v H2 d R' o2 (x2.rep o1 ru) rv e4 fun w H' F' rw o' x' => q w H' F' rw o' ((x1.trans o1 x2).trans o2 x')
theorem tA.one {ma : Tau → M (List D)} {k : List D → M D} {σ : L2.St} {H : Hp} {Q : VK} {P : List V → Hp → Prop} (h : tE G (fun τ => ma τ >>= k) σ H Q)
    (hk : ∀ r F R xs us H1 d R', Ok1 r F H1 R → RepL G r F H1 xs us → k xs R = some (d, R') → (∀ w H' F', Rep G r F' H' d w → Ok1 r F' H' R' → Ext r F H1 F' H' → Q w H') → P us H1) : tA G ma σ H P := by
  obtain ⟨r, F, τ, R, d, R', ht, ho, e, q⟩ := h
  obtain ⟨x, R1, e1, e2⟩ := M.bind_some e
  exact ⟨r, F, τ, R, x, R1, ht, ho, e1, fun u H1 F1 ru o1 x1 => hk r F1 R1 x u H1 d R' o1 ru e2 fun w H' F' rw o' x' => q w H' F' rw o' (x1.trans o1 x')⟩
/-- a receiver, then arguments -/
theorem tE.args {mo : ME} {ma : Tau → M (List D)} {k : D → List D → M D} {σ : L2.St} {H : Hp} {Q : VK} (h : tE G (fun τ => do let x ← mo τ; let xs ← ma τ; k x xs) σ H Q)
    (S : V → List V → Hp → Prop)
    (hS : ∀ r F R x u us H2 xs d R', Ok1 r F H2 R → Rep G r F H2 x u → RepL G r F H2 xs us → k x xs R = some (d, R') → (∀ w H' F', Rep G r F' H' d w → Ok1 r F' H' R' → Ext r F H2 F' H' → Q w H') → S u us H2) :
    tE G mo σ H fun u H1 => tA G ma σ H1 fun us H2 => S u us H2 := by
  obtain ⟨r, F, τ, R, d, R', ht, ho, e, q⟩ := h
  obtain ⟨x, R1, e1, e2⟩ := M.bind_some e
  obtain ⟨xs, Rb, e3, e4⟩ := M.bind_some e2
  refine ⟨r, F, τ, R, x, R1, ht, ho, e1, fun u H1 F1 ru o1 x1 => ⟨r, F1, τ, R1, xs, Rb, ht.ext ho x1, o1, e3, fun vs H2 F2 rv o2 x2 => ?_⟩⟩
  exact hS r F2 Rb x u vs H2 xs d R' o2 (x2.rep o1 ru) rv e4 fun w H' F' rw o' x' => q w H' F' rw o' ((x1.trans o1 x2).trans o2 x')

/-! names, constants -/
def mV (i : Nat) : ME := fun τ => opt (τ[i]?.join)
def mC (d : D) : ME := fun _ => pure d
theorem se_var {i : Nat} {x : Str} {pos : Pos} (hN : X.N[i]? = some x := by rfl) (hv : Vis X.env.scope x := by first | exact Or.inl rfl | exact Or.inr (Or.inl rfl) | exact Or.inr (Or.inr rfl)) (hd : (x == ("__debug__" : Str)) = false := by decide)
    (hcd : (x == ("__classdict__" : Str)) = false := by decide) : PE X (.Name x pos) (tE G (mV i)) := by
  refine PE.mono (pe_var hN hv hd hcd) fun σ H Q h => ?_
  obtain ⟨r, F, τ, R, d, R', ht, ho, e, q⟩ := h
  obtain ⟨e0, rfl⟩ := opt_some (show opt (τ[i]?.join) R = some (d, R') from e)
  have e' : τ[i]? = some (some d) := by
    cases h : τ[i]? with
    | none => rw [h] at e0; cases e0
    | some o => rw [h] at e0; exact congrArg some e0
  obtain ⟨v, h1, h2⟩ := ht.2 i d e'
  exact ⟨v, h1, q v H F h2 ho .refl⟩
theorem se_const {e : Expr} {v : V} {d : D} (h : PE X e (tC v)) (hr : ∀ r F H, Rep G r F H d v) : PE X e (tE G (mC d)) := by
  refine PE.mono h fun σ H Q h => ?_
  obtain ⟨r, F, τ, R, d', R', ht, ho, e, q⟩ := h
  cases e
  exact q v H F (hr r F H) ho .refl
theorem se_int {i j pos} : PE X (.Constant (.int i) j pos) (tE G (mC (.int i))) := se_const pe_int fun r F H => by simp only [Rep]
theorem se_bl {b j pos} : PE X (.Constant (.bool b) j pos) (tE G (mC (.bl b))) := se_const pe_bl fun r F H => by simp only [Rep]
theorem se_non {j pos} : PE X (.Constant .none j pos) (tE G (mC .non)) := se_const pe_non fun r F H => by simp only [Rep]
theorem se_str {x j pos} : PE X (.Constant (.str x) j pos) (tE G (mC (.str x))) := se_const pe_str fun r F H => by simp only [Rep]

/-! arguments -/
theorem sa_nil : PA X [] (tA G fun _ => pure []) := by
  refine PA.mono pa_nil fun σ H Q h => ?_
  obtain ⟨r, F, τ, R, d, R', ht, ho, e, q⟩ := h
  cases e
  exact q [] H F (by simp only [RepL]) ho .refl
theorem sa_cons {e : Expr} {es : List Expr} {m : ME} {ms : Tau → M (List D)} (he : PE X e (tE G m)) (hr : PA X es (tA G ms)) (hs : starEach (e :: es) X.env = (false, eval e X.env) :: starEach es X.env := by rfl) :
    PA X (e :: es) (tA G fun τ => do let x ← m τ; let xs ← ms τ; pure (x :: xs)) := by
  refine PA.mono (pa_cons he hr hs) fun σ H Q h => ?_
  obtain ⟨r, F, τ, R, d, R', ht, ho, e, q⟩ := h
  obtain ⟨x, R1, e1, e2⟩ := M.bind_some e
  obtain ⟨xs, Rb, e3, e4⟩ := M.bind_some e2
  obtain ⟨rfl, rfl⟩ : x :: xs = d ∧ Rb = R' := by
    have e5 := Option.some.inj (show some (x :: xs, Rb) = some (d, R') from e4)
    exact ⟨congrArg Prod.fst e5, congrArg Prod.snd e5⟩
  refine ⟨r, F, τ, R, x, R1, ht, ho, e1, fun u H1 F1 ru o1 x1 => ⟨r, F1, τ, R1, xs, Rb, ht.ext ho x1, o1, e3, fun vs H2 F2 rv o2 x2 => ?_⟩⟩
  refine q (u :: vs) H2 F2 ?_ o2 (x1.trans o1 x2)
  simp only [RepL]
  exact ⟨u, vs, rfl, x2.rep o1 ru, rv⟩
end
end Nb
set_option Elab.async false
set_option linter.all false
set_option maxRecDepth 100000
namespace Nb
open PySem PySem.Spec PyProof.Rows L2

/-! ### values as the layer's flat ones -/
def vD : D → Option V
  | .non => some .non
  | .bl b => some (.bl b)
  | .int i => some (.int i)
  | .str s => some (.str s)
  | _ => none
section
variable {G : Gx} {r : Option Addr} {F F' : Fz} {H H' : Hp} {R : Sr}
theorem Rep.flat {d : D} {u v : V} (h : Rep G r F H d v) (e : vD d = some u) : v = u := by
  cases d <;> simp only [vD, Option.some.injEq] at e <;> first | (subst e; simpa only [Rep] using h) | cases e
theorem vD_flat {d : D} {u : V} (e : vD d = some u) : flatV u = true := by
  cases d <;> simp only [vD, Option.some.injEq] at e <;> first | (subst e; rfl) | cases e
theorem Rep.of_flat {d : D} {u : V} (e : vD d = some u) : Rep G r F H d u := by
  cases d <;> simp only [vD, Option.some.injEq] at e <;> first | (subst e; simp only [Rep]) | cases e
def vDs : List D → Option (List V)
  | [] => some []
  | d :: ds => (vD d).bind fun u => (vDs ds).map fun us => u :: us
theorem RepL.flat : ∀ {ds : List D} {us vs : List V}, RepL G r F H ds vs → vDs ds = some us → vs = us
  | [], us, vs, h, e => by simp only [RepL] at h; simp only [vDs, Option.some.injEq] at e; rw [h, e]
  | d :: ds, us, vs, h, e => by
    simp only [RepL] at h
    obtain ⟨w, ws, e1, a, b⟩ := h
    simp only [vDs] at e
    cases ed : vD d with
    | none => rw [ed] at e; cases e
    | some u =>
      cases es : vDs ds with
      | none => rw [ed, es] at e; cases e
      | some us' =>
        rw [ed, es] at e
        have e : u :: us' = us := Option.some.inj e
        rw [e1, a.flat ed, RepL.flat b es, e]
theorem vDs_flat : ∀ {ds : List D} {us : List V}, vDs ds = some us → us.all flatV = true
  | [], us, e => by simp only [vDs, Option.some.injEq] at e; subst e; rfl
  | d :: ds, us, e => by
    simp only [vDs] at e
    cases ed : vD d with
    | none => rw [ed] at e; cases e
    | some u =>
      cases es : vDs ds with
      | none => rw [ed, es] at e; cases e
      | some us' =>
        rw [ed, es] at e
        have e : u :: us' = us := Option.some.inj e
        subst e
        simp [vD_flat ed, vDs_flat es]
/-! data that == goes through -/
mutual
def pyD : D → Option PyData
  | .non => some .none
  | .bl b => some (.bool b)
  | .int i => some (.int i)
  | .str s => some (.str s)
  | .lst ds => (pyL ds).map .list
  | .tup ds => (pyL ds).map .tuple
  | _ => none
def pyL : List D → Option (List PyData)
  | [] => some []
  | d :: ds => (pyD d).bind fun p => (pyL ds).map fun ps => p :: ps
end
mutual
theorem Rep.dp : ∀ {d : D} {v : V} {p : PyData}, Rep G r F H d v → pyD d = some p → Dp G.K H v p
  | .non, v, p, h, e => by
    simp only [pyD, Option.some.injEq] at e; subst e
    rw [show v = .non by simpa only [Rep] using h]; exact .non
  | .bl b, v, p, h, e => by
    simp only [pyD, Option.some.injEq] at e; subst e
    rw [show v = .bl b by simpa only [Rep] using h]; exact .bl b
  | .int b, v, p, h, e => by
    simp only [pyD, Option.some.injEq] at e; subst e
    rw [show v = .int b by simpa only [Rep] using h]; exact .int b
  | .str b, v, p, h, e => by
    simp only [pyD, Option.some.injEq] at e; subst e
    rw [show v = .str b by simpa only [Rep] using h]; exact .str b
  | .lst ds, v, p, h, e => by
    simp only [Rep] at h
    obtain ⟨a, vs, rfl, l, q⟩ := h
    simp only [pyD] at e
    cases es : pyL ds with
    | none => rw [es] at e; cases e
    | some ps =>
      rw [es] at e
      cases e
      exact .lst l.sq (RepL.dp q es)
  | .tup ds, v, p, h, e => by
    simp only [Rep] at h
    obtain ⟨a, vs, rfl, l, q⟩ := h
    simp only [pyD] at e
    cases es : pyL ds with
    | none => rw [es] at e; cases e
    | some ps =>
      rw [es] at e
      cases e
      exact .tup l.sq (RepL.dp q es)
  | .dct _, v, p, h, e => by simp [pyD] at e
  | .ins _ _, v, p, h, e => by simp [pyD] at e
  | .scr _, v, p, h, e => by simp [pyD] at e
  | .src, v, p, h, e => by simp [pyD] at e
  | .ty _, v, p, h, e => by simp [pyD] at e
  | .cls _, v, p, h, e => by simp [pyD] at e
  | .exn _ _, v, p, h, e => by simp [pyD] at e
theorem RepL.dp : ∀ {ds : List D} {vs : List V} {ps : List PyData}, RepL G r F H ds vs → pyL ds = some ps → DpAll G.K H vs ps
  | [], vs, ps, h, e => by
    simp only [RepL] at h; simp only [pyL, Option.some.injEq] at e
    subst h; subst e; exact .nil
  | d :: ds, vs, ps, h, e => by
    simp only [RepL] at h
    obtain ⟨w, ws, rfl, a, b⟩ := h
    simp only [pyL] at e
    cases ed : pyD d with
    | none => rw [ed] at e; cases e
    | some p =>
      cases es : pyL ds with
      | none => rw [ed, es] at e; cases e
      | some ps' =>
        rw [ed, es] at e
        cases e
        exact .cons (Rep.dp a ed) (RepL.dp b es)
end
end

/-! ### operators -/
def OpD (G : Gx) (rr : R2) (f : D → D → Option D) : Prop := ∀ r F H R x y u v d (Q : VK), Ok1 r F H R → Rep G r F H x u → Rep G r F H y v → f x y = some d →
  (∀ w H' F', Rep G r F' H' d w → Ok1 r F' H' R → Ext r F H F' H' → Q w H') → rr u v H Q
/-- .. that tells whether something is so -/
def OpB (G : Gx) (rr : R2) (f : D → D → Option Bool) : Prop := ∀ r F H R x y u v b (Q : VK), Ok1 r F H R → Rep G r F H x u → Rep G r F H y v → f x y = some b → Q (.bl b) H → rr u v H Q
def mOp (f : D → D → Option D) (ma mb : ME) : ME := fun τ => do let x ← ma τ; let y ← mb τ; opt (f x y)
def mCmp (f : D → D → Option Bool) (ma mb : ME) : Tau → M Bool := fun τ => do let x ← ma τ; let y ← mb τ; opt (f x y)
def asE (m : Tau → M Bool) : ME := fun τ => do let b ← m τ; pure (.bl b)
def orF {α : Type} (f g : D → D → Option α) : D → D → Option α := fun x y => (f x y).or (g x y)
section
variable {X : Cx} {G : Gx} {a b c : Expr} {ma mb mc : ME} {pos : Pos}
theorem OpD.or {rr rr' : R2} {f g : D → D → Option D} (h : OpD G rr f) (h' : OpD G rr' g) : OpD G (fun x y H Q => rr x y H Q ∨ rr' x y H Q) (orF f g) := by
  intro r F H R x y u v d Q o ru rv e q
  unfold orF at e
  cases ef : f x y with
  | some d' => rw [ef] at e; cases e; exact .inl (h r F H R x y u v d Q o ru rv ef q)
  | none => rw [ef] at e; exact .inr (h' r F H R x y u v d Q o ru rv e q)
theorem OpB.or {rr rr' : R2} {f g : D → D → Option Bool} (h : OpB G rr f) (h' : OpB G rr' g) : OpB G (fun x y H Q => rr x y H Q ∨ rr' x y H Q) (orF f g) := by
  intro r F H R x y u v d Q o ru rv e q
  unfold orF at e
  cases ef : f x y with
  | some d' => rw [ef] at e; cases e; exact .inl (h r F H R x y u v d Q o ru rv ef q)
  | none => rw [ef] at e; exact .inr (h' r F H R x y u v d Q o ru rv e q)
theorem se_op {op : Operator} {rr : R2} {f : D → D → Option D} (ho : OpR X (binaryOp op) rr) (hd : OpD G rr f) (ha : PE X a (tE G ma)) (hb : PE X b (tE G mb)) : PE X (.BinOp a op b pos) (tE G (mOp f ma mb)) :=
  PE.mono (pe_op ho ha hb) fun σ H Q h => tE.two (k := fun x y => opt (f x y)) h fun r F R x y u v H1 d R' o ru rv e q => by
    obtain ⟨e0, rfl⟩ := opt_some e
    exact hd r F H1 R' x y u v d Q o ru rv e0 q
/-- a truth, as a value -/
theorem tE.of_bool {m : Tau → M Bool} {σ : L2.St} {H : Hp} {Q : VK} (h : tE G (asE m) σ H Q) : tT G m σ H fun b H' => Q (.bl b) H' := by
  obtain ⟨r, F, τ, R, d, R', ht, ho, e, q⟩ := h
  obtain ⟨b, R1, e1, e2⟩ := M.bind_some e
  cases e2
  exact ⟨r, F, τ, R, b, R', ht, ho, e1, fun H' F' o x => q _ H' F' (by simp only [Rep]) o x⟩
theorem tT.two {f : D → D → Option Bool} {σ : L2.St} {H : Hp} {Q : Bool → Hp → Prop} {P : V → V → Hp → Prop} (h : tT G (mCmp f ma mb) σ H Q)
    (hk : ∀ r F R x y u v H1 b, Ok1 r F H1 R → Rep G r F H1 x u → Rep G r F H1 y v → f x y = some b → Q b H1 → P u v H1) : tE G ma σ H fun u H1 => tE G mb σ H1 fun v H2 => P u v H2 := by
  obtain ⟨r, F, τ, R, d, R', ht, ho, e, q⟩ := h
  obtain ⟨x, R1, e1, e2⟩ := M.bind_some e
  obtain ⟨y, Rb, e3, e4⟩ := M.bind_some e2
  obtain ⟨e5, rfl⟩ := opt_some e4
  exact ⟨r, F, τ, R, x, R1, ht, ho, e1, fun u H1 F1 ru o1 x1 => ⟨r, F1, τ, R1, y, R', ht.ext ho x1, o1, e3, fun v H2 F2 rv o2 x2 => hk r F2 R' x y u v H2 d o2 (x2.rep o1 ru) rv e5 (q H2 F2 o2 (x1.trans o1 x2))⟩⟩
theorem se_cmp {op : CmpOp} {rr : R2} {f : D → D → Option Bool} (ho : OpR X (compareOp op) rr) (hd : OpB G rr f) (ha : PE X a (tE G ma)) (hb : PE X b (tE G mb)) (hm : behindInMarks op b = false := by rfl) : PE X (.Compare a [op] [b] pos) (tE G (asE (mCmp f ma mb))) :=
  PE.mono (pe_cmpR ho ha hb hm) fun σ H Q h => tT.two h.of_bool fun r F R x y u v H1 b o ru rv e q => hd r F H1 R x y u v b Q o ru rv e q
theorem st_cmp {op : CmpOp} {rr : R2} {f : D → D → Option Bool} (ho : OpR X (compareOp op) rr) (hd : OpB G rr f) (ha : PE X a (tE G ma)) (hb : PE X b (tE G mb)) (hm : behindInMarks op b = false := by rfl) : PT X (.Compare a [op] [b] pos) (tT G (mCmp f ma mb)) :=
  PT.mono (pt_cmpR ho ha hb hm) fun σ H Q h => tT.two h fun r F R x y u v H1 b o ru rv e q => hd r F H1 R x y u v b _ o ru rv e ⟨b, rfl, q⟩
/-- by a comparison of the layer's (PC) -/
theorem se_pc {op : CmpOp} {t : TE} {m : Tau → M Bool} (h : PC X op a b t) (k : ∀ σ H Q, tT G m σ H (fun c H' => Q (.bl c) H') → t σ H Q) (h1 : behindInMarks op b = false := by rfl) : PE X (.Compare a [op] [b] pos) (tE G (asE m)) :=
  PE.mono (pe_cmp h h1) fun σ H Q q => k σ H Q q.of_bool
theorem st_pc {op : CmpOp} {t : TE} {m : Tau → M Bool} (h : PC X op a b t) (k : ∀ σ H Q, tT G m σ H (fun c H' => Q (.bl c) H') → t σ H Q) (h1 : behindInMarks op b = false := by rfl) : PT X (.Compare a [op] [b] pos) (tT G m) :=
  PT.mono (pt_cmp h h1) fun σ H Q q => k σ H _ (by
    obtain ⟨r, F, τ, R, d, R', ht, ho, e, q⟩ := q
    exact ⟨r, F, τ, R, d, R', ht, ho, e, fun H' F' o x => ⟨d, rfl, q H' F' o x⟩⟩)

/-! ints -/
def addI : D → D → Option D | .int i, .int j => some (.int (i + j)) | _, _ => none
def subI : D → D → Option D | .int i, .int j => some (.int (i - j)) | _, _ => none
instance (i j : Int) : Decidable (CMul i j) := inferInstanceAs (Decidable (_ ∨ _))
instance (i j : Int) : Decidable (CDivN i j) := inferInstanceAs (Decidable (_ ∧ _))
instance (i j : Int) : Decidable (CPow i j) := inferInstanceAs (Decidable (_ ∧ _))
def mulI : D → D → Option D | .int i, .int j => if CMul i j then some (.int (i * j)) else none | _, _ => none
def fdivI : D → D → Option D | .int i, .int j => if CDivN i j then some (.int (i.fdiv j)) else none | _, _ => none
def modI : D → D → Option D | .int i, .int j => if j ≠ 0 then some (.int (i.fmod j)) else none | _, _ => none
def powI : D → D → Option D | .int i, .int j => if CPow i j then some (.int (i ^ j.toNat)) else none | _, _ => none
def addS : D → D → Option D | .str i, .str j => if i.length + j.length ≤ sizeLine then some (.str (i ++ j)) else none | _, _ => none
def addL : D → D → Option D | .lst i, .lst j => if i.length + j.length ≤ sizeLine then some (.lst (i ++ j)) else none | _, _ => none
def addT : D → D → Option D | .tup i, .tup j => if i.length ≠ 0 ∧ i.length + j.length ≤ sizeLine then some (.tup (i ++ j)) else none | _, _ => none
theorem d_rI {C : Int → Int → Prop} {g : Int → Int → Int} {f : D → D → Option D} (h : ∀ x y d, f x y = some d → ∃ i j, x = .int i ∧ y = .int j ∧ C i j ∧ d = .int (g i j)) : OpD G (rI C fun i j => .int (g i j)) f := by
  intro r F H R x y u v d Q o ru rv e q
  obtain ⟨i, j, rfl, rfl, c, rfl⟩ := h x y d e
  simp only [Rep] at ru rv
  exact ⟨i, j, ru, rv, c, q _ H F (by simp only [Rep]) o .refl⟩
theorem d_rI0 {g : Int → Int → Int} {f : D → D → Option D} (h : ∀ x y d, f x y = some d → ∃ i j, x = .int i ∧ y = .int j ∧ d = .int (g i j)) : OpD G (rI0 fun i j => .int (g i j)) f := by
  intro r F H R x y u v d Q o ru rv e q
  obtain ⟨i, j, rfl, rfl, rfl⟩ := h x y d e
  simp only [Rep] at ru rv
  exact ⟨i, j, ru, rv, q _ H F (by simp only [Rep]) o .refl⟩
theorem d_addI : OpD G (rI0 fun i j => .int (i + j)) addI := d_rI0 fun x y d e => by
  unfold addI at e
  split at e <;> first | (cases e; exact ⟨_, _, rfl, rfl, rfl⟩) | cases e
theorem d_subI : OpD G (rI0 fun i j => .int (i - j)) subI := d_rI0 fun x y d e => by
  unfold subI at e
  split at e <;> first | (cases e; exact ⟨_, _, rfl, rfl, rfl⟩) | cases e
theorem d_mulI : OpD G (rI CMul fun i j => .int (i * j)) mulI := d_rI fun x y d e => by
  unfold mulI at e
  split at e <;> first | (split at e <;> first | (cases e; exact ⟨_, _, rfl, rfl, ‹_›, rfl⟩) | cases e) | cases e
theorem d_fdivI : OpD G (rI CDivN fun i j => .int (i.fdiv j)) fdivI := d_rI fun x y d e => by
  unfold fdivI at e
  split at e <;> first | (split at e <;> first | (cases e; exact ⟨_, _, rfl, rfl, ‹_›, rfl⟩) | cases e) | cases e
theorem d_modI : OpD G (rI (fun _ j => j ≠ 0) fun i j => .int (i.fmod j)) modI := d_rI fun x y d e => by
  unfold modI at e
  split at e <;> first | (split at e <;> first | (cases e; exact ⟨_, _, rfl, rfl, ‹_›, rfl⟩) | cases e) | cases e
theorem d_powI : OpD G (rI CPow fun i j => .int (i ^ j.toNat)) powI := d_rI fun x y d e => by
  unfold powI at e
  split at e <;> first | (split at e <;> first | (cases e; exact ⟨_, _, rfl, rfl, ‹_›, rfl⟩) | cases e) | cases e
theorem d_addS : OpD G (fun x y H Q => ∃ i j, x = .str i ∧ y = .str j ∧ i.length + j.length ≤ sizeLine ∧ Q (.str (i ++ j)) H) addS := by
  intro r F H R x y u v d Q o ru rv e q
  unfold addS at e
  split at e
  · split at e
    · cases e
      simp only [Rep] at ru rv
      exact ⟨_, _, ru, rv, ‹_›, q _ H F (by simp only [Rep]) o .refl⟩
    · cases e
  · cases e
theorem d_addL : OpD G rCat addL := by
  intro r F H R x y u v d Q o ru rv e q
  unfold addL at e
  split at e
  · rename_i i j
    split at e
    · rename_i hl
      cases e
      simp only [Rep] at ru rv
      obtain ⟨p, vs, rfl, l1, q1⟩ := ru
      obtain ⟨p', ws, rfl, l2, q2⟩ := rv
      refine ⟨p, p', vs, ws, rfl, rfl, l1.2, l2.2, by rw [← q1.length, ← q2.length]; exact hl, fun n hn => ?_⟩
      exact q _ _ _ (rep_lst o hn (q1.append q2)) (new_frozen o hn).1 (new_frozen o hn).2
    · cases e
  · cases e
theorem d_addT : OpD G (rCatT G.K) addT := by
  intro r F H R x y u v d Q o ru rv e q
  unfold addT at e
  split at e
  · rename_i i j
    split at e
    · rename_i hl
      cases e
      have ru0 := ru
      simp only [Rep] at ru rv
      obtain ⟨p, vs, rfl, l1, q1⟩ := ru
      obtain ⟨p', ws, rfl, l2, q2⟩ := rv
      have e1 := q1.length
      have e2 := q2.length
      refine ⟨p, p', vs, ws, rfl, rfl, l1.sq, l2.sq, fun z => ?_, by rw [← e1, ← e2]; exact hl.2, fun z => ?_, fun _ n hn => ?_⟩
      · rw [z] at e1; exact hl.1 e1
      · rw [z] at e2
        have e3 : j = [] := List.length_eq_zero_iff.mp e2
        rw [e3, List.append_nil] at q
        exact q _ H F ru0 o .refl
      · exact q _ _ _ (rep_tup o hn (q1.append q2)) (new_frozen o hn).1 (new_frozen o hn).2
    · cases e
  · cases e
/-- + of ints, texts, lists, tuples -/
def addD : D → D → Option D := orF addI (orF addS (orF addL addT))
theorem se_add (hK : X.K = G.K) (ha : PE X a (tE G ma)) (hb : PE X b (tE G mb)) : PE X (.BinOp a .Add b pos) (tE G (mOp addD ma mb)) :=
  se_op (op_add.or (op_add_str.or (op_cat.or op_catT))) (d_addI.or (d_addS.or (d_addL.or (by rw [hK]; exact d_addT)))) ha hb
theorem se_sub (ha : PE X a (tE G ma)) (hb : PE X b (tE G mb)) : PE X (.BinOp a .Sub b pos) (tE G (mOp subI ma mb)) := se_op op_sub d_subI ha hb
theorem se_mul (ha : PE X a (tE G ma)) (hb : PE X b (tE G mb)) : PE X (.BinOp a .Mult b pos) (tE G (mOp mulI ma mb)) := se_op op_mul d_mulI ha hb
theorem se_fdiv (ha : PE X a (tE G ma)) (hb : PE X b (tE G mb)) : PE X (.BinOp a .FloorDiv b pos) (tE G (mOp fdivI ma mb)) := se_op op_fdivN d_fdivI ha hb
theorem se_mod (ha : PE X a (tE G ma)) (hb : PE X b (tE G mb)) : PE X (.BinOp a .Mod b pos) (tE G (mOp modI ma mb)) := se_op op_modN d_modI ha hb
theorem se_pow (ha : PE X a (tE G ma)) (hb : PE X b (tE G mb)) : PE X (.BinOp a .Pow b pos) (tE G (mOp powI ma mb)) := se_op op_pow d_powI ha hb

/-! comparisons of ints -/
def cmpI (p : Int → Int → Bool) : D → D → Option Bool | .int i, .int j => some (p i j) | _, _ => none
theorem d_cmpI {p : Int → Int → Bool} : OpB G (rI0 fun i j => .bl (p i j)) (cmpI p) := by
  intro r F H R x y u v d Q o ru rv e q
  unfold cmpI at e
  split at e
  · cases e
    simp only [Rep] at ru rv
    exact ⟨_, _, ru, rv, q⟩
  · cases e
def ltD : D → D → Option Bool := cmpI fun i j => decide (i < j)
def leD : D → D → Option Bool := cmpI fun i j => decide (i ≤ j)
def gtD : D → D → Option Bool := cmpI fun i j => decide (j < i)
def geD : D → D → Option Bool := cmpI fun i j => decide (j ≤ i)
theorem se_lt (ha : PE X a (tE G ma)) (hb : PE X b (tE G mb)) : PE X (.Compare a [.Lt] [b] pos) (tE G (asE (mCmp ltD ma mb))) := se_cmp op_lt d_cmpI ha hb (nomark _)
theorem se_le (ha : PE X a (tE G ma)) (hb : PE X b (tE G mb)) : PE X (.Compare a [.LtE] [b] pos) (tE G (asE (mCmp leD ma mb))) := se_cmp op_le d_cmpI ha hb (nomark _)
theorem se_gt (ha : PE X a (tE G ma)) (hb : PE X b (tE G mb)) : PE X (.Compare a [.Gt] [b] pos) (tE G (asE (mCmp gtD ma mb))) := se_cmp op_gt d_cmpI ha hb (nomark _)
theorem se_ge (ha : PE X a (tE G ma)) (hb : PE X b (tE G mb)) : PE X (.Compare a [.GtE] [b] pos) (tE G (asE (mCmp geD ma mb))) := se_cmp op_ge d_cmpI ha hb (nomark _)
theorem st_lt (ha : PE X a (tE G ma)) (hb : PE X b (tE G mb)) : PT X (.Compare a [.Lt] [b] pos) (tT G (mCmp ltD ma mb)) := st_cmp op_lt d_cmpI ha hb (nomark _)
theorem st_le (ha : PE X a (tE G ma)) (hb : PE X b (tE G mb)) : PT X (.Compare a [.LtE] [b] pos) (tT G (mCmp leD ma mb)) := st_cmp op_le d_cmpI ha hb (nomark _)
theorem st_gt (ha : PE X a (tE G ma)) (hb : PE X b (tE G mb)) : PT X (.Compare a [.Gt] [b] pos) (tT G (mCmp gtD ma mb)) := st_cmp op_gt d_cmpI ha hb (nomark _)
theorem st_ge (ha : PE X a (tE G ma)) (hb : PE X b (tE G mb)) : PT X (.Compare a [.GtE] [b] pos) (tT G (mCmp geD ma mb)) := st_cmp op_ge d_cmpI ha hb (nomark _)
/-! == -/
def eqS : D → D → Option Bool := fun x y => (vD x).bind fun u => (vD y).bind fun v => if scal u v then some (decide (u = v)) else none
def eqP : D → D → Option Bool := fun x y => (pyD x).bind fun p => (pyD y).bind fun q => if SeqAt.shaped p && SeqAt.shaped q then some (PyData.eqv p q) else none
theorem eqS_of {x y : D} {b : Bool} (e : eqS x y = some b) : ∃ u v, vD x = some u ∧ vD y = some v ∧ scal u v = true ∧ b = decide (u = v) := by
  unfold eqS at e
  cases h1 : vD x with
  | none => rw [h1] at e; cases e
  | some u =>
    cases h2 : vD y with
    | none => rw [h1, h2] at e; cases e
    | some v =>
      rw [h1, h2] at e
      simp only [Option.bind_some] at e
      split at e
      · cases e; exact ⟨u, v, rfl, rfl, ‹_›, rfl⟩
      · cases e
theorem eqP_of {x y : D} {b : Bool} (e : eqP x y = some b) : ∃ p q, pyD x = some p ∧ pyD y = some q ∧ SeqAt.shaped p = true ∧ SeqAt.shaped q = true ∧ b = PyData.eqv p q := by
  unfold eqP at e
  cases h1 : pyD x with
  | none => rw [h1] at e; cases e
  | some u =>
    cases h2 : pyD y with
    | none => rw [h1, h2] at e; cases e
    | some v =>
      rw [h1, h2] at e
      simp only [Option.bind_some] at e
      split at e
      · rename_i hs
        cases e
        rw [Bool.and_eq_true] at hs
        exact ⟨u, v, rfl, rfl, hs.1, hs.2, rfl⟩
      · cases e
def eqD : D → D → Option Bool := orF eqS eqP
def neD : D → D → Option Bool := fun x y => (eqD x y).map (!·)
theorem d_eqS : OpB G rEq eqS := by
  intro r F H R x y u v d Q o ru rv e q
  obtain ⟨u', v', e1, e2, s, rfl⟩ := eqS_of e
  rw [ru.flat e1, rv.flat e2]
  exact ⟨s, q⟩
theorem d_eqP : OpB G (rEqD G.K) eqP := by
  intro r F H R x y u v d Q o ru rv e q
  obtain ⟨u', v', e1, e2, s, s', rfl⟩ := eqP_of e
  exact ⟨u', v', ru.dp e1, rv.dp e2, s, s', q⟩
theorem d_neS : OpB G rNe (fun x y => (eqS x y).map (!·)) := by
  intro r F H R x y u v d Q o ru rv e q
  have e : (eqS x y).map (!·) = some d := e
  cases h : eqS x y with
  | none => rw [h] at e; cases e
  | some b =>
    rw [h] at e; cases e
    obtain ⟨u', v', e1, e2, s, rfl⟩ := eqS_of h
    rw [ru.flat e1, rv.flat e2]
    exact ⟨s, q⟩
theorem d_neP : OpB G (rNeD G.K) (fun x y => (eqP x y).map (!·)) := by
  intro r F H R x y u v d Q o ru rv e q
  have e : (eqP x y).map (!·) = some d := e
  cases h : eqP x y with
  | none => rw [h] at e; cases e
  | some b =>
    rw [h] at e; cases e
    obtain ⟨u', v', e1, e2, s, s', rfl⟩ := eqP_of h
    exact ⟨u', v', ru.dp e1, rv.dp e2, s, s', q⟩
theorem neD_eq : neD = orF (fun x y => (eqS x y).map (!·)) (fun x y => (eqP x y).map (!·)) := by
  funext x y
  unfold neD eqD orF
  show ((eqS x y).or (eqP x y)).map (!·) = ((eqS x y).map (!·)).or ((eqP x y).map (!·))
  cases eqS x y with
  | none => rfl
  | some b => rfl
theorem se_eq (hK : X.K = G.K) (hu : X.A.units + 64 < cLine) (ha : PE X a (tE G ma)) (hb : PE X b (tE G mb)) : PE X (.Compare a [.Eq] [b] pos) (tE G (asE (mCmp eqD ma mb))) := se_cmp (op_eq.or (op_eqD hu)) (d_eqS.or (by rw [hK]; exact d_eqP)) ha hb (nomark _)
theorem st_eq (hK : X.K = G.K) (hu : X.A.units + 64 < cLine) (ha : PE X a (tE G ma)) (hb : PE X b (tE G mb)) : PT X (.Compare a [.Eq] [b] pos) (tT G (mCmp eqD ma mb)) := st_cmp (op_eq.or (op_eqD hu)) (d_eqS.or (by rw [hK]; exact d_eqP)) ha hb (nomark _)
theorem se_ne (hK : X.K = G.K) (hu : X.A.units + 64 < cLine) (ha : PE X a (tE G ma)) (hb : PE X b (tE G mb)) : PE X (.Compare a [.NotEq] [b] pos) (tE G (asE (mCmp neD ma mb))) := by
  rw [neD_eq]; exact se_cmp (op_ne.or (op_neD hu)) (d_neS.or (by rw [hK]; exact d_neP)) ha hb (nomark _)
theorem st_ne (hK : X.K = G.K) (hu : X.A.units + 64 < cLine) (ha : PE X a (tE G ma)) (hb : PE X b (tE G mb)) : PT X (.Compare a [.NotEq] [b] pos) (tT G (mCmp neD ma mb)) := by
  rw [neD_eq]; exact st_cmp (op_ne.or (op_neD hu)) (d_neS.or (by rw [hK]; exact d_neP)) ha hb (nomark _)
/-! is None -/
def isN : D → Bool | .non => true | _ => false
theorem Rep.isN {G r F H} {d : D} {v : V} (h : Rep G r F H d v) : decide (v = .non) = Nb.isN d := by
  cases d <;> simp only [Rep] at h <;> (try (subst h; rfl)) <;> (obtain ⟨a, h⟩ := h; first | (obtain ⟨b, h⟩ := h; first | (obtain ⟨c, h⟩ := h; rw [h.1]; rfl) | (rw [h.1]; rfl)) | (rw [h.1]; rfl) | (rw [h.2]; rfl))
def mIsN (ma : ME) : Tau → M Bool := fun τ => do let x ← ma τ; pure (isN x)
def mNotN (ma : ME) : Tau → M Bool := fun τ => do let x ← ma τ; pure (!isN x)
theorem tT.one {g : D → Bool} {σ : L2.St} {H : Hp} {Q : Bool → Hp → Prop} {P : V → Hp → Prop} (h : tT G (fun τ => do let x ← ma τ; pure (g x)) σ H Q)
    (hk : ∀ r F R x u H1, Ok1 r F H1 R → Rep G r F H1 x u → Q (g x) H1 → P u H1) : tE G ma σ H P := by
  obtain ⟨r, F, τ, R, d, R', ht, ho, e, q⟩ := h
  obtain ⟨x, R1, e1, e2⟩ := M.bind_some e
  cases e2
  exact ⟨r, F, τ, R, x, R', ht, ho, e1, fun u H1 F1 ru o1 x1 => hk r F1 R' x u H1 o1 ru (q H1 F1 o1 x1)⟩
theorem se_isN {j pos'} (ha : PE X a (tE G ma)) : PE X (.Compare a [.Is] [.Constant .none j pos'] pos) (tE G (asE (mIsN ma))) := se_pc (pc_isN ha) (fun σ H Q h => tT.one h fun r F R x u H1 o ru q => by
  show Q (.bl (decide (u = .non))) H1
  rw [ru.isN]; exact q) (nobehind _ (by decide) (by decide))
theorem st_isN {j pos'} (ha : PE X a (tE G ma)) : PT X (.Compare a [.Is] [.Constant .none j pos'] pos) (tT G (mIsN ma)) := st_pc (pc_isN ha) (fun σ H Q h => tT.one h fun r F R x u H1 o ru q => by
  show Q (.bl (decide (u = .non))) H1
  rw [ru.isN]; exact q) (nobehind _ (by decide) (by decide))
theorem se_notN {j pos'} (ha : PE X a (tE G ma)) : PE X (.Compare a [.IsNot] [.Constant .none j pos'] pos) (tE G (asE (mNotN ma))) := se_pc (pc_notN ha) (fun σ H Q h => tT.one h fun r F R x u H1 o ru q => by
  show Q (.bl (!decide (u = .non))) H1
  rw [ru.isN]; exact q) (nobehind _ (by decide) (by decide))
theorem st_notN {j pos'} (ha : PE X a (tE G ma)) : PT X (.Compare a [.IsNot] [.Constant .none j pos'] pos) (tT G (mNotN ma)) := st_pc (pc_notN ha) (fun σ H Q h => tT.one h fun r F R x u H1 o ru q => by
  show Q (.bl (!decide (u = .non))) H1
  rw [ru.isN]; exact q) (nobehind _ (by decide) (by decide))
end
end Nb
set_option Elab.async false
set_option linter.all false
set_option maxRecDepth 100000
namespace Nb
open PySem PySem.Spec PyProof.Rows L2

section
variable {X : Cx} {G : Gx} {a b c e o : Expr} {es rest : List Expr} {ma mb mc mo : ME} {pos apos cpos : Pos}
/-! ### truth, and, or, not -/
def truD : D → Option Bool
  | .non => some false
  | .bl b => some b
  | .int i => some (i != 0)
  | .str s => if s.length ≤ sizeLine then some ((s.length : Int) != 0) else none
  | .lst ds => some (!ds.isEmpty)
  | .tup ds => some (!ds.isEmpty)
  | _ => none
theorem RepL.isEmpty {G r F H} {ds : List D} {vs : List V} (h : RepL G r F H ds vs) : vs.isEmpty = ds.isEmpty := by
  have e := h.length
  cases ds <;> cases vs <;> first | rfl | (simp at e)
theorem Rep.tru {r F H} {d : D} {v : V} {k : Bool} (h : Rep G r F H d v) (e : truD d = some k) : TruV G.K v H k := by
  cases d <;> simp only [truD] at e <;> simp only [Rep] at h
  case non => subst h; cases e; rfl
  case bl b => subst h; cases e; rfl
  case int b => subst h; cases e; rfl
  case str s =>
    subst h
    split at e
    · cases e; exact ⟨‹_›, rfl⟩
    · cases e
  case lst ds =>
    obtain ⟨p, vs, rfl, l, q⟩ := h
    cases e
    exact .inl ⟨vs, l.sq, by rw [q.isEmpty]⟩
  case tup ds =>
    obtain ⟨p, vs, rfl, l, q⟩ := h
    cases e
    exact .inr (.inl ⟨vs, l.sq, by rw [q.isEmpty]⟩)
  all_goals cases e
def mTru (ma : ME) : Tau → M Bool := fun τ => do let x ← ma τ; opt (truD x)
theorem tT.ev {g : D → M Bool} {σ : L2.St} {H : Hp} {Q : Bool → Hp → Prop} {P : V → Hp → Prop} (h : tT G (fun τ => do let x ← ma τ; g x) σ H Q)
    (hk : ∀ r F R R' x u H1 b, Ok1 r F H1 R → Rep G r F H1 x u → g x R = some (b, R') → (∀ H' F', Ok1 r F' H' R' → Ext r F H1 F' H' → Q b H') → P u H1) : tE G ma σ H P := by
  obtain ⟨r, F, τ, R, d, R', ht, ho, e, q⟩ := h
  obtain ⟨x, R1, e1, e2⟩ := M.bind_some e
  exact ⟨r, F, τ, R, x, R1, ht, ho, e1, fun u H1 F1 ru o1 x1 => hk r F1 R1 R' x u H1 d o1 ru e2 fun H' F' o' x' => q H' F' o' (x1.trans o1 x')⟩
/-- a name, a call, a subscript, a field .. as a test, by its truth -/
theorem st_val (hK : X.K = G.K) (ha : PE X a (tE G ma)) (he : ∀ whole, isTrue a X.env whole = (do let v ← whole; standAt a.pos; holding [v] (truthy v)) := by intro _; rfl) : PT X a (tT G (mTru ma)) :=
  PT.mono (pt_truth ha he) fun σ H Q h => tT.ev (g := fun x => opt (truD x)) h fun r F R R' x u H1 b o ru e q => by
    obtain ⟨e0, rfl⟩ := opt_some e
    exact ⟨b, by rw [hK]; exact ru.tru e0, q H1 F o .refl⟩
def mNotT (m : Tau → M Bool) : Tau → M Bool := fun τ => do let b ← m τ; pure (!b)
def mAndT (m n : Tau → M Bool) : Tau → M Bool := fun τ => do let b ← m τ; if b then n τ else pure false
def mOrT (m n : Tau → M Bool) : Tau → M Bool := fun τ => do let b ← m τ; if b then pure true else n τ
theorem st_not {m : Tau → M Bool} (h : PT X a (tT G m)) : PT X (.UnaryOp .Not a pos) (tT G (mNotT m)) := PT.mono (pt_not h) fun σ H Q q => by
  obtain ⟨r, F, τ, R, d, R', ht, ho, e, q⟩ := q
  obtain ⟨x, R1, e1, e2⟩ := M.bind_some e
  cases e2
  exact ⟨r, F, τ, R, x, R', ht, ho, e1, q⟩
theorem sw_and1 {m : Tau → M Bool} (h : PT X a (tT G m)) : PW X (.BoolOp .And [a] pos) (tT G m) := pw_and1 h
theorem sw_or1 {m : Tau → M Bool} (h : PT X a (tT G m)) : PW X (.BoolOp .Or [a] pos) (tT G m) := pw_or1 h
theorem sw_and {m n : Tau → M Bool} (h : PT X a (tT G m)) (k : PW X (.BoolOp .And (b :: rest) pos) (tT G n)) : PW X (.BoolOp .And (a :: b :: rest) pos) (tT G (mAndT m n)) := PW.mono (pw_and h k) fun σ H Q q => by
  obtain ⟨r, F, τ, R, d, R', ht, ho, e, q⟩ := q
  obtain ⟨x, R1, e1, e2⟩ := M.bind_some e
  refine ⟨r, F, τ, R, x, R1, ht, ho, e1, fun H1 F1 o1 x1 => ?_⟩
  cases x with
  | true => exact ⟨r, F1, τ, R1, d, R', ht.ext ho x1, o1, e2, fun H' F' o' x' => q H' F' o' (x1.trans o1 x')⟩
  | false => cases e2; exact q H1 F1 o1 x1
theorem sw_or {m n : Tau → M Bool} (h : PT X a (tT G m)) (k : PW X (.BoolOp .Or (b :: rest) pos) (tT G n)) : PW X (.BoolOp .Or (a :: b :: rest) pos) (tT G (mOrT m n)) := PW.mono (pw_or h k) fun σ H Q q => by
  obtain ⟨r, F, τ, R, d, R', ht, ho, e, q⟩ := q
  obtain ⟨x, R1, e1, e2⟩ := M.bind_some e
  refine ⟨r, F, τ, R, x, R1, ht, ho, e1, fun H1 F1 o1 x1 => ?_⟩
  cases x with
  | false => exact ⟨r, F1, τ, R1, d, R', ht.ext ho x1, o1, e2, fun H' F' o' x' => q H' F' o' (x1.trans o1 x')⟩
  | true => cases e2; exact q H1 F1 o1 x1
/-! .. as values -/
def mAnd (ma mb : ME) : ME := fun τ => do let x ← ma τ; let k ← opt (truD x); if k then mb τ else pure x
def mOr (ma mb : ME) : ME := fun τ => do let x ← ma τ; let k ← opt (truD x); if k then pure x else mb τ
def mNot (ma : ME) : ME := fun τ => do let x ← ma τ; let k ← opt (truD x); pure (.bl (!k))
theorem se_one {op} (h : PE X a (tE G ma)) : PE X (.BoolOp op [a] pos) (tE G ma) := pe_one h
theorem se_and (hK : X.K = G.K) (ha : PE X a (tE G ma)) (hb : PE X (.BoolOp .And (b :: rest) pos) (tE G mb)) : PE X (.BoolOp .And (a :: b :: rest) pos) (tE G (mAnd ma mb)) := PE.mono (pe_andT ha hb) fun σ H Q q => by
  obtain ⟨r, F, τ, R, d, R', ht, ho, e, q⟩ := q
  obtain ⟨x, R1, e1, e2⟩ := M.bind_some e
  obtain ⟨k, Rb, e3, e4⟩ := M.bind_some e2
  obtain ⟨e5, rfl⟩ := opt_some e3
  refine ⟨r, F, τ, R, x, _, ht, ho, e1, fun u H1 F1 ru o1 x1 => ⟨k, by rw [hK]; exact ru.tru e5, ?_⟩⟩
  cases k with
  | true => exact ⟨r, F1, τ, _, d, R', ht.ext ho x1, o1, e4, fun v H' F' rv o' x' => q v H' F' rv o' (x1.trans o1 x')⟩
  | false => cases e4; exact q u H1 F1 ru o1 x1
theorem se_or (hK : X.K = G.K) (ha : PE X a (tE G ma)) (hb : PE X (.BoolOp .Or (b :: rest) pos) (tE G mb)) : PE X (.BoolOp .Or (a :: b :: rest) pos) (tE G (mOr ma mb)) := PE.mono (pe_orT ha hb) fun σ H Q q => by
  obtain ⟨r, F, τ, R, d, R', ht, ho, e, q⟩ := q
  obtain ⟨x, R1, e1, e2⟩ := M.bind_some e
  obtain ⟨k, Rb, e3, e4⟩ := M.bind_some e2
  obtain ⟨e5, rfl⟩ := opt_some e3
  refine ⟨r, F, τ, R, x, _, ht, ho, e1, fun u H1 F1 ru o1 x1 => ⟨k, by rw [hK]; exact ru.tru e5, ?_⟩⟩
  cases k with
  | false => exact ⟨r, F1, τ, _, d, R', ht.ext ho x1, o1, e4, fun v H' F' rv o' x' => q v H' F' rv o' (x1.trans o1 x')⟩
  | true => cases e4; exact q u H1 F1 ru o1 x1
theorem se_not (hK : X.K = G.K) (ha : PE X a (tE G ma)) : PE X (.UnaryOp .Not a pos) (tE G (mNot ma)) := PE.mono (pe_notT ha) fun σ H Q q => by
  obtain ⟨r, F, τ, R, d, R', ht, ho, e, q⟩ := q
  obtain ⟨x, R1, e1, e2⟩ := M.bind_some e
  obtain ⟨k, Rb, e3, e4⟩ := M.bind_some e2
  obtain ⟨e5, rfl⟩ := opt_some e3
  cases e4
  exact ⟨r, F, τ, R, x, _, ht, ho, e1, fun u H1 F1 ru o1 x1 => ⟨k, by rw [hK]; exact ru.tru e5, q _ H1 F1 (by simp only [Rep]) o1 x1⟩⟩
def mIf (mt : Tau → M Bool) (ma mb : ME) : ME := fun τ => do let k ← mt τ; if k then ma τ else mb τ
theorem se_if {mt : Tau → M Bool} (hc : PT X c (tT G mt)) (ha : PE X a (tE G ma)) (hb : PE X b (tE G mb)) : PE X (.IfExp c a b pos) (tE G (mIf mt ma mb)) := PE.mono (pe_ifExp hc ha hb) fun σ H Q q => by
  obtain ⟨r, F, τ, R, d, R', ht, ho, e, q⟩ := q
  obtain ⟨k, R1, e1, e2⟩ := M.bind_some e
  refine ⟨r, F, τ, R, k, R1, ht, ho, e1, fun H1 F1 o1 x1 => ?_⟩
  cases k with
  | true => exact ⟨r, F1, τ, R1, d, R', ht.ext ho x1, o1, e2, fun v H' F' rv o' x' => q v H' F' rv o' (x1.trans o1 x')⟩
  | false => exact ⟨r, F1, τ, R1, d, R', ht.ext ho x1, o1, e2, fun v H' F' rv o' x' => q v H' F' rv o' (x1.trans o1 x')⟩

/-! ### displays -/
theorem le_line {n : Nat} (h : n ≤ 1000) : n ≤ sizeLine := by rw [sizeLine_eq]; omega
def mTup (ms : Tau → M (List D)) : ME := fun τ => do let xs ← ms τ; opt (if xs.length ≤ 1000 then some (.tup xs) else none)
def mLst (ms : Tau → M (List D)) : ME := fun τ => do let xs ← ms τ; opt (if xs.length ≤ 1000 then some (.lst xs) else none)
theorem se_tup {x1} {ms : Tau → M (List D)} (h : PA X es (tA G ms)) : PE X (.Tuple es x1 pos) (tE G (mTup ms)) := PE.mono (pe_tup h) fun σ H Q q =>
  tA.one (k := fun xs => opt (if xs.length ≤ 1000 then some (.tup xs) else none)) q fun r F R xs us H1 d R' o ru e q => by
    obtain ⟨e0, rfl⟩ := opt_some e
    split at e0
    · cases e0
      exact ⟨le_line (by rw [← ru.length]; assumption), fun p hp => q _ _ _ (rep_tup o hp ru) (new_frozen o hp).1 (new_frozen o hp).2⟩
    · cases e0
theorem se_lst {ms : Tau → M (List D)} (h : PA X es (tA G ms)) : PE X (.List es pos) (tE G (mLst ms)) := PE.mono (pe_lst h) fun σ H Q q =>
  tA.one (k := fun xs => opt (if xs.length ≤ 1000 then some (.lst xs) else none)) q fun r F R xs us H1 d R' o ru e q => by
    obtain ⟨e0, rfl⟩ := opt_some e
    split at e0
    · cases e0
      exact ⟨le_line (by rw [← ru.length]; assumption), fun p hp => q _ _ _ (rep_lst o hp ru) (new_frozen o hp).1 (new_frozen o hp).2⟩
    · cases e0
theorem se_dict0 : PE X (.Dict [] [] pos) (tE G (mC (.dct []))) := PE.mono pe_dnewK fun σ H Q q => by
  obtain ⟨r, F, τ, R, d, R', ht, ho, e, q⟩ := q
  cases e
  exact fun p hp => q _ _ _ (rep_dct ho hp (by simp only [RepK])) (new_frozen ho hp).1 (new_frozen ho hp).2

theorem mk2 {ma mb : ME} {k : D → D → M D} {τ : Tau} {R R1 Rb : Sr} {x y : D} {p : Option (D × Sr)} (e1 : ma τ R = some (x, R1)) (e2 : mb τ R1 = some (y, Rb)) (e3 : k x y Rb = p) : (do let x ← ma τ; let y ← mb τ; k x y : M D) R = p := by
  rw [M.bind_ap, e1]
  dsimp only
  rw [M.bind_ap, e2]
  exact e3
/-! ### subscripts -/
def keyD : D → Option Key
  | .int i => some (.inl i)
  | .str s => some (.inr s)
  | _ => none
theorem Rep.key {r F H} {d : D} {v : V} {k : Key} (h : Rep G r F H d v) (e : keyD d = some k) : v = kV k := by
  cases d <;> simp only [keyD] at e <;> simp only [Rep] at h <;> first | (cases e; subst h; rfl) | cases e
def ixD : D → D → Option D
  | .lst ds, .int i => atI ds i
  | .tup ds, .int i => atI ds i
  | .scr ns, .int i => (atI ns i).map D.int
  | .str z, .int i => if z.length ≤ sizeLine then (atI z.cps.toList i).map fun c => .str ⟨#[c]⟩ else none
  | _, _ => none
def dgetD : D → D → Option D
  | .dct kvs, k => (keyD k).bind fun k => valD kvs k
  | _, _ => none
theorem RepL.atI {r F H} {ds : List D} {vs : List V} {i : Int} {d : D} (h : RepL G r F H ds vs) (e : L2.atI ds i = some d) : ∃ v, L2.atI vs i = some v ∧ Rep G r F H d v := by
  unfold L2.atI at e ⊢
  rw [h.length] at e
  cases q : ixN vs.length i with
  | none => rw [q] at e; cases e
  | some j =>
    rw [q] at e
    obtain ⟨v, h1, h2⟩ := h.get e
    exact ⟨v, h1, h2⟩
theorem atI_map {α β : Type} (f : α → β) (xs : List α) (i : Int) : L2.atI (xs.map f) i = (L2.atI xs i).map f := by
  unfold L2.atI
  rw [List.length_map]
  cases ixN xs.length i <;> simp
theorem d_ix : OpD G (rIx G.K) ixD := by
  intro r F H R x y u v d Q o ru rv e q
  unfold ixD at e
  split at e
  · rename_i ds i
    simp only [Rep] at ru rv
    obtain ⟨p, vs, rfl, l, q1⟩ := ru
    obtain ⟨w, h1, h2⟩ := q1.atI e
    exact .inl ⟨p, vs, i, w, rfl, rv, l.sq, h1, q w H F h2 o .refl⟩
  · rename_i ds i
    simp only [Rep] at ru rv
    obtain ⟨p, vs, rfl, l, q1⟩ := ru
    obtain ⟨w, h1, h2⟩ := q1.atI e
    exact .inr (.inl ⟨p, vs, i, w, rfl, rv, l.sq, h1, q w H F h2 o .refl⟩)
  · rename_i ns i
    simp only [Rep] at ru rv
    obtain ⟨p, rfl, l⟩ := ru
    cases h : L2.atI ns i with
    | none => rw [h] at e; cases e
    | some n =>
      rw [h] at e; cases e
      exact .inl ⟨p, _, i, .int n, rfl, rv, l.sq, by rw [atI_map, h]; rfl, q _ H F (by simp only [Rep]) o .refl⟩
  · rename_i z i
    simp only [Rep] at ru rv
    split at e
    · cases h : L2.atI z.cps.toList i with
      | none => rw [h] at e; cases e
      | some n =>
        rw [h] at e; cases e
        exact .inr (.inr ⟨z, i, n, ru, rv, ‹_›, h, q _ H F (by simp only [Rep]) o .refl⟩)
    · cases e
  · cases e
theorem Rep.dget {r F H} {kvs : List (Key × D)} {v : V} {k : Key} {d : D} (h : Rep G r F H (.dct kvs) v) (e : valD kvs k = some d) : ∃ p w, v = .ref p ∧ DGet H p (kV k) (some w) ∧ Rep G r F H d w := by
  simp only [Rep] at h
  obtain ⟨p, ws, rfl, f, l, q⟩ := h
  rcases q.val k with ⟨h1, h2⟩ | ⟨d', w, h1, h2, h3⟩
  · rw [h1] at e; cases e
  · rw [h1] at e; cases e
    exact ⟨p, w, rfl, .inl ⟨ws, k, l, rfl, h2.symm⟩, h3⟩
theorem Rep.dlook {r F H} {kvs : List (Key × D)} {v : V} (k : Key) (h : Rep G r F H (.dct kvs) v) : ∃ p o, v = .ref p ∧ IsD H p ∧ DGet H p (kV k) o ∧ ((valD kvs k = none ∧ o = none) ∨ ∃ d w, valD kvs k = some d ∧ o = some w ∧ Rep G r F H d w) := by
  simp only [Rep] at h
  obtain ⟨p, ws, rfl, f, l, q⟩ := h
  rcases q.val k with ⟨h1, h2⟩ | ⟨d', w, h1, h2, h3⟩
  · exact ⟨p, none, rfl, .inl ⟨ws, l⟩, .inl ⟨ws, k, l, rfl, h2.symm⟩, .inl ⟨h1, rfl⟩⟩
  · exact ⟨p, some w, rfl, .inl ⟨ws, l⟩, .inl ⟨ws, k, l, rfl, h2.symm⟩, .inr ⟨d', w, h1, rfl, h3⟩⟩
theorem d_dget : OpD G (fun x y H Q => ∃ a v, x = .ref a ∧ DGet H a y (some v) ∧ Q v H) dgetD := by
  intro r F H R x y u v d Q o ru rv e q
  unfold dgetD at e
  split at e
  · rename_i kvs
    cases hk : keyD y with
    | none => rw [hk] at e; cases e
    | some j =>
      rw [hk] at e
      obtain ⟨p, w, rfl, g, rw'⟩ := ru.dget e
      rw [rv.key hk]
      exact ⟨p, w, rfl, g, q w H F rw' o .refl⟩
  · cases e
def subD : D → D → Option D := orF ixD dgetD
theorem se_sub_ix (hK : X.K = G.K) (hu : X.A.units + 64 < cLine) (ha : PE X a (tE G ma)) (hb : PE X b (tE G mb)) (hs : PlainIx b := by intro _ _; rfl) : PE X (.Subscript a b pos) (tE G (mOp subD ma mb)) :=
  PE.mono (PE.or (pe_ix ix_seq ha hb hs) (pe_dget (by omega) ha hb hs)) fun σ H Q h => by
    obtain ⟨r, F, τ, R, d, R', ht, ho, e, q⟩ := h
    obtain ⟨x, R1, e1, e2⟩ := M.bind_some e
    obtain ⟨y, Rb, e3, e4⟩ := M.bind_some e2
    obtain ⟨e5, rfl⟩ := opt_some e4
    unfold subD orF at e5
    cases h1 : ixD x y with
    | some d' =>
      rw [h1] at e5; cases e5
      refine .inl (tE.two (k := fun x y => opt (ixD x y)) ⟨r, F, τ, R, d, R', ht, ho, ?_, q⟩ fun r F R x y u v H1 d R' o ru rv e q => ?_)
      · exact mk2 e1 e3 (by rw [h1]; rfl)
      · obtain ⟨e0, rfl⟩ := opt_some e
        rw [hK]
        exact d_ix r F H1 R' x y u v d Q o ru rv e0 q
    | none =>
      rw [h1] at e5
      refine .inr (tE.two (k := fun x y => opt (dgetD x y)) ⟨r, F, τ, R, d, R', ht, ho, ?_, q⟩ fun r F R x y u v H1 d R' o ru rv e q => ?_)
      · exact mk2 e1 e3 (by have e6 : dgetD x y = some d := e5
                            rw [e6]; rfl)
      · obtain ⟨e0, rfl⟩ := opt_some e
        exact d_dget r F H1 R' x y u v d Q o ru rv e0 q
end
end Nb
set_option Elab.async false
set_option linter.all false
set_option maxRecDepth 100000
namespace Nb
open PySem PySem.Spec PyProof.Rows L2

section
variable {X : Cx} {G : Gx} {a b c e o : Expr} {es rest : List Expr} {ma mb mc mo : ME} {pos apos cpos : Pos}
/-! ### slices -/
def tO (G : Gx) (m : Tau → M (Option Int)) : TO := fun σ H Q => ∃ r F τ R b R', HoldT G r F H σ τ ∧ Ok1 r F H R ∧ m τ R = some (b, R') ∧ ∀ H' F', Ok1 r F' H' R' → Ext r F H F' H' → Q b H'
theorem PO.mono {e : Option Expr} {t t' : TO} (h : PO X e t) (k : ∀ σ H Q, t' σ H Q → t σ H Q) : PO X e t' := ⟨fun pins s σ H Q I q => h.run pins s σ H Q I (k σ H Q q)⟩
def intD : D → Option Int | .int i => some i | _ => none
def mPart (ma : ME) : Tau → M (Option Int) := fun τ => do let x ← ma τ; let i ← opt (intD x); pure (some i)
def mNo : Tau → M (Option Int) := fun _ => pure none
theorem so_none : PO X none (tO G mNo) := PO.mono po_none fun σ H Q q => by
  obtain ⟨r, F, τ, R, d, R', ht, ho, e, q⟩ := q
  cases e
  exact q H F ho .refl
theorem so_some (h : PE X a (tE G ma)) : PO X (some a) (tO G (mPart ma)) := PO.mono (po_some h) fun σ H Q q => by
  obtain ⟨r, F, τ, R, d, R', ht, ho, e, q⟩ := q
  obtain ⟨x, R1, e1, e2⟩ := M.bind_some e
  obtain ⟨i, Rb, e3, e4⟩ := M.bind_some e2
  obtain ⟨e5, rfl⟩ := opt_some e3
  cases e4
  refine ⟨r, F, τ, R, x, _, ht, ho, e1, fun u H1 F1 ru o1 x1 => ⟨i, ?_, q H1 F1 o1 x1⟩⟩
  cases x <;> simp only [intD] at e5 <;> first | (cases e5; simpa only [Rep] using ru) | cases e5
def cutG {α : Type} (xs : List α) (lo hi : Option Int) : List α := (xs.drop (HT.sIx xs.length 0 lo)).take (HT.sIx xs.length xs.length hi - HT.sIx xs.length 0 lo)
theorem RepL.cut {r F H} {ds : List D} {vs : List V} (h : RepL G r F H ds vs) (lo hi : Option Int) : RepL G r F H (cutG ds lo hi) (cutV vs lo hi) := by
  unfold cutG cutV
  rw [h.length]
  exact (h.drop _).take _
def slD (x : D) (lo hi : Option Int) : Option D := match x with
  | .lst ds => some (.lst (cutG ds lo hi))
  | .tup ds => if HT.sIx ds.length 0 lo = 0 ∧ HT.sIx ds.length ds.length hi = ds.length then some (.tup ds) else some (.tup (cutG ds lo hi))
  | .str z => if z.length ≤ sizeLine then some (.str (cutS z lo hi)) else none
  | _ => none
/-- a tuple's slice that is the tuple itself -/
def mSl (ma : ME) (ml mh : Tau → M (Option Int)) : ME := fun τ => do let x ← ma τ; let l ← ml τ; let h ← mh τ; opt (match x with | .tup ds => if HT.sIx ds.length 0 l = 0 ∧ HT.sIx ds.length ds.length h = ds.length then none else slD x l h | _ => slD x l h)
theorem se_slice {lo hi : Option Expr} {ml mh : Tau → M (Option Int)} {p2 : Pos} (hK : X.K = G.K) (ha : PE X a (tE G ma)) (hl : PO X lo (tO G ml)) (hh : PO X hi (tO G mh)) : PE X (.Subscript a (.Slice lo hi none p2) pos) (tE G (mSl ma ml mh)) :=
  PE.mono (pe_slice (sl_list.or (sl_tup.or sl_str)) ha hl hh) fun σ H Q q => by
    obtain ⟨r, F, τ, R, d, R', ht, ho, e, q⟩ := q
    obtain ⟨x, R1, e1, e2⟩ := M.bind_some e
    obtain ⟨l, Rb, e3, e4⟩ := M.bind_some e2
    obtain ⟨h, Rc, e5, e6⟩ := M.bind_some e4
    obtain ⟨e7, rfl⟩ := opt_some e6
    refine ⟨r, F, τ, R, x, R1, ht, ho, e1, fun u H1 F1 ru o1 x1 => ⟨r, F1, τ, R1, l, Rb, ht.ext ho x1, o1, e3, fun H2 F2 o2 x2 => ⟨r, F2, τ, Rb, h, R', (ht.ext ho x1).ext o1 x2, o2, e5, fun H3 F3 o3 x3 => ?_⟩⟩⟩
    have ru := x3.rep o2 (x2.rep o1 ru)
    have xx := ((x1.trans o1 x2).trans o2 x3)
    cases x <;> simp only [slD] at e7 <;> simp only [Rep] at ru
    case lst ds =>
      cases e7
      obtain ⟨p, vs, rfl, l1, q1⟩ := ru
      refine .inl ⟨p, vs, rfl, l1.sq, fun n hn => ?_⟩
      exact q _ _ _ (rep_lst o3 hn (q1.cut l h)) (new_frozen o3 hn).1 (xx.trans o3 (new_frozen o3 hn).2)
    case tup ds =>
      split at e7
      · cases e7
      · rename_i hn0
        cases e7
        obtain ⟨p, vs, rfl, l1, q1⟩ := ru
        refine .inr (.inl ⟨p, vs, rfl, by rw [hK]; exact l1.sq, by rw [← q1.length]; exact hn0, fun n hn => ?_⟩)
        exact q _ _ _ (rep_tup o3 hn (q1.cut l h)) (new_frozen o3 hn).1 (xx.trans o3 (new_frozen o3 hn).2)
    case str z =>
      split at e7
      · cases e7
        exact .inr (.inr ⟨_, ru, ‹_›, q _ H3 F3 (by simp only [Rep]) o3 xx⟩)
      · cases e7
    all_goals cases e7

/-! ### in -/
def inDict (x y : D) : Option Bool := match y with
  | .dct kvs => match x with
    | .non => some false
    | x => (keyD x).map fun k => (valD kvs k).isSome
  | _ => none
def inSeq (x y : D) : Option Bool := match y with
  | .lst ds => (vD x).bind fun v => (vDs ds).map fun vs => inV v vs
  | .tup ds => (vD x).bind fun v => (vDs ds).map fun vs => inV v vs
  | _ => none
def inD : D → D → Option Bool := orF inDict inSeq
def ninD : D → D → Option Bool := fun x y => (inD x y).map (!·)
theorem RepL.of_flat {r F H} {ds : List D} {us vs : List V} (h : RepL G r F H ds vs) (e : vDs ds = some us) : vs = us := h.flat e
theorem inSeq_ok {r F H} {x y : D} {u v : V} {b : Bool} (ru : Rep G r F H x u) (rv : Rep G r F H y v) (e : inSeq x y = some b) : ∃ p xs, v = .ref p ∧ (SqL G.K H p xs ∨ SqT G.K H p xs) ∧ flatV u = true ∧ xs.all flatV = true ∧ inV u xs = b := by
  cases y <;> simp only [inSeq] at e
  case lst ds =>
    simp only [Rep] at rv
    obtain ⟨p, vs, rfl, l, q⟩ := rv
    cases e1 : vD x with
    | none => rw [e1] at e; cases e
    | some w =>
      cases e2 : vDs ds with
      | none => rw [e1, e2] at e; cases e
      | some ws =>
        rw [e1, e2] at e; cases e
        rw [ru.flat e1]
        have := q.flat e2
        subst this
        exact ⟨p, vs, rfl, .inl l.sq, vD_flat e1, vDs_flat e2, rfl⟩
  case tup ds =>
    simp only [Rep] at rv
    obtain ⟨p, vs, rfl, l, q⟩ := rv
    cases e1 : vD x with
    | none => rw [e1] at e; cases e
    | some w =>
      cases e2 : vDs ds with
      | none => rw [e1, e2] at e; cases e
      | some ws =>
        rw [e1, e2] at e; cases e
        rw [ru.flat e1]
        have := q.flat e2
        subst this
        exact ⟨p, vs, rfl, .inr l.sq, vD_flat e1, vDs_flat e2, rfl⟩
  all_goals cases e
theorem inDict_ok {r F H} {x y : D} {u v : V} {b : Bool} (ru : Rep G r F H x u) (rv : Rep G r F H y v) (e : inDict x y = some b) : (∃ a o, v = .ref a ∧ DGet H a u o ∧ o.isSome = b) ∨ ∃ a kvs, v = .ref a ∧ u = .non ∧ Rd H a (.dK kvs) ∧ b = false := by
  cases y <;> simp only [inDict] at e
  case dct kvs =>
    by_cases hx : x = .non
    · subst hx
      cases e
      simp only [Rep] at ru rv
      obtain ⟨p, ws, rfl, f, l, q⟩ := rv
      exact .inr ⟨p, ws, rfl, ru, l, rfl⟩
    · have e' : (keyD x).map (fun k => (valD kvs k).isSome) = some b := by
        cases x <;> first | exact absurd rfl hx | exact e
      cases hk : keyD x with
      | none => rw [hk] at e'; cases e'
      | some k =>
        rw [hk] at e'; cases e'
        obtain ⟨p, o, rfl, hd, g, z⟩ := rv.dlook k
        refine .inl ⟨p, o, rfl, by rw [ru.key hk]; exact g, ?_⟩
        show o.isSome = (valD kvs k).isSome
        rcases z with ⟨h1, h2⟩ | ⟨d, w, h1, h2, _⟩
        · rw [h1, h2]; rfl
        · rw [h1, h2]; rfl
  all_goals cases e
theorem tT.ev2 {f : D → D → Option Bool} {σ : L2.St} {H : Hp} {Q : Bool → Hp → Prop} (h : tT G (mCmp f ma mb) σ H Q) : ∃ r F τ R x R1 y Rb b, HoldT G r F H σ τ ∧ Ok1 r F H R ∧ ma τ R = some (x, R1) ∧ mb τ R1 = some (y, Rb) ∧ f x y = some b ∧ ∀ H' F', Ok1 r F' H' Rb → Ext r F H F' H' → Q b H' := by
  obtain ⟨r, F, τ, R, d, R', ht, ho, e, q⟩ := h
  obtain ⟨x, R1, e1, e2⟩ := M.bind_some e
  obtain ⟨y, Rb, e3, e4⟩ := M.bind_some e2
  obtain ⟨e5, rfl⟩ := opt_some e4
  exact ⟨r, F, τ, R, x, R1, y, R', d, ht, ho, e1, e3, e5, q⟩
/-- one of two readings, by what the values are -/
theorem tT.split {f g : D → D → Option Bool} {σ : L2.St} {H : Hp} {Q : Bool → Hp → Prop} (h : tT G (mCmp (orF f g) ma mb) σ H Q) : tT G (mCmp f ma mb) σ H Q ∨ tT G (mCmp g ma mb) σ H Q := by
  obtain ⟨r, F, τ, R, x, R1, y, Rb, d, ht, ho, e1, e2, e3, q⟩ := h.ev2
  unfold orF at e3
  have mk : ∀ f : D → D → Option Bool, f x y = some d → mCmp f ma mb τ R = some (d, Rb) := fun f hf => by
    unfold mCmp
    rw [M.bind_ap, e1]
    dsimp only
    rw [M.bind_ap, e2]
    dsimp only
    rw [hf]
    rfl
  cases h1 : f x y with
  | some b => rw [h1] at e3; cases e3; exact .inl ⟨r, F, τ, R, d, Rb, ht, ho, mk f h1, q⟩
  | none => rw [h1] at e3; exact .inr ⟨r, F, τ, R, d, Rb, ht, ho, mk g e3, q⟩
theorem PT.or {e : Expr} {t t' : TT} (h : PT X e t) (h' : PT X e t') : PT X e (fun σ H Q => t σ H Q ∨ t' σ H Q) := ⟨fun pins s σ H Q I q => q.elim (h.run pins s σ H Q I) (h'.run pins s σ H Q I)⟩
theorem asE_of {m : Tau → M Bool} {σ : L2.St} {H : Hp} {Q : VK} (h : tT G m σ H fun c H' => Q (.bl c) H') : tE G (asE m) σ H Q → True := fun _ => trivial
theorem ninD_eq : ninD = orF (fun x y => (inDict x y).map (!·)) (fun x y => (inSeq x y).map (!·)) := by
  funext x y
  unfold ninD inD orF
  show ((inDict x y).or (inSeq x y)).map (!·) = ((inDict x y).map (!·)).or ((inSeq x y).map (!·))
  cases inDict x y with
  | none => rfl
  | some b => rfl
theorem map_not {o : Option Bool} {b : Bool} (e : o.map (!·) = some b) : o = some (!b) := by
  cases o with
  | none => cases e
  | some c => cases e; cases c <;> rfl
theorem st_inDict (hu : X.A.units + 64 < cLine) (ha : PE X a (tE G ma)) (hb : PE X b (tE G mb)) (hm : behindInMarks .In b = false) : PT X (.Compare a [.In] [b] pos) (tT G (mCmp inDict ma mb)) :=
  st_pc (pc_dinN (by omega) ha hb) (fun σ H Q h => tT.two h fun r F R x y u v H1 b o ru rv e q => by
    rcases inDict_ok ru rv e with ⟨p, w, h1, h2, h3⟩ | ⟨p, w, h1, h2, h3, h4⟩
    · exact .inl ⟨p, w, h1, h2, by rw [h3]; exact q⟩
    · exact .inr ⟨p, w, h1, h2, h3, by rw [← h4]; exact q⟩) hm
theorem st_ninDict (hu : X.A.units + 64 < cLine) (ha : PE X a (tE G ma)) (hb : PE X b (tE G mb)) (hm : behindInMarks .NotIn b = false) : PT X (.Compare a [.NotIn] [b] pos) (tT G (mCmp (fun x y => (inDict x y).map (!·)) ma mb)) :=
  st_pc (pc_dnotinN (by omega) ha hb) (fun σ H Q h => tT.two h fun r F R x y u v H1 b o ru rv e q => by
    rcases inDict_ok ru rv (map_not e) with ⟨p, w, h1, h2, h3⟩ | ⟨p, w, h1, h2, h3, h4⟩
    · exact .inl ⟨p, w, h1, h2, by rw [h3, Bool.not_not]; exact q⟩
    · exact .inr ⟨p, w, h1, h2, h3, by have : b = true := by cases b <;> first | rfl | cases h4
                                       rw [← this]; exact q⟩) hm
theorem d_inSeq : OpB G (rIn G.K false) inSeq := by
  intro r F H R x y u v b Q o ru rv e q
  obtain ⟨p, xs, h1, h2, h3, h4, h5⟩ := inSeq_ok ru rv e
  exact ⟨p, xs, h1, h2, h3, h4, by simp only [Bool.false_eq_true, if_false]; rw [h5]; exact q⟩
theorem d_ninSeq : OpB G (rIn G.K true) (fun x y => (inSeq x y).map (!·)) := by
  intro r F H R x y u v b Q o ru rv e q
  obtain ⟨p, xs, h1, h2, h3, h4, h5⟩ := inSeq_ok ru rv (map_not e)
  exact ⟨p, xs, h1, h2, h3, h4, by simp only [if_true]; rw [h5, Bool.not_not]; exact q⟩
theorem st_in (hK : X.K = G.K) (hu : X.A.units + 64 < cLine) (ha : PE X a (tE G ma)) (hb : PE X b (tE G mb)) (hm : behindInMarks .In b = false := by rfl) : PT X (.Compare a [.In] [b] pos) (tT G (mCmp inD ma mb)) :=
  PT.mono (PT.or (st_inDict hu ha hb hm) (st_cmp op_in_seq (by rw [hK]; exact d_inSeq) ha hb hm)) fun σ H Q h => tT.split h
theorem st_nin (hK : X.K = G.K) (hu : X.A.units + 64 < cLine) (ha : PE X a (tE G ma)) (hb : PE X b (tE G mb)) (hm : behindInMarks .NotIn b = false := by rfl) : PT X (.Compare a [.NotIn] [b] pos) (tT G (mCmp ninD ma mb)) := by
  rw [ninD_eq]
  exact PT.mono (PT.or (st_ninDict hu ha hb hm) (st_cmp op_notIn_seq (by rw [hK]; exact d_ninSeq) ha hb hm)) fun σ H Q h => tT.split h
theorem asE_split {f g : D → D → Option Bool} {σ : L2.St} {H : Hp} {Q : VK} (h : tE G (asE (mCmp (orF f g) ma mb)) σ H Q) : tE G (asE (mCmp f ma mb)) σ H Q ∨ tE G (asE (mCmp g ma mb)) σ H Q := by
  obtain ⟨r, F, τ, R, d, R', ht, ho, e, q⟩ := h
  obtain ⟨b, R1, e1, e2⟩ := M.bind_some e
  cases e2
  unfold mCmp at e1
  obtain ⟨x, R2', e3, e4⟩ := M.bind_some e1
  obtain ⟨y, R3, e5, e6⟩ := M.bind_some e4
  obtain ⟨e7, rfl⟩ := opt_some e6
  unfold orF at e7
  have mk : ∀ f : D → D → Option Bool, f x y = some b → asE (mCmp f ma mb) τ R = some (.bl b, R') := fun f hf => by
    unfold asE mCmp
    rw [M.bind_ap, M.bind_ap, e3]
    dsimp only
    rw [M.bind_ap, e5]
    dsimp only
    rw [hf]
    rfl
  cases h1 : f x y with
  | some c => rw [h1] at e7; cases e7; exact .inl ⟨r, F, τ, R, _, R', ht, ho, mk f h1, q⟩
  | none => rw [h1] at e7; exact .inr ⟨r, F, τ, R, _, R', ht, ho, mk g e7, q⟩
theorem se_in (hK : X.K = G.K) (hu : X.A.units + 64 < cLine) (ha : PE X a (tE G ma)) (hb : PE X b (tE G mb)) (hm : behindInMarks .In b = false := by rfl) : PE X (.Compare a [.In] [b] pos) (tE G (asE (mCmp inD ma mb))) :=
  PE.mono (PE.or (se_pc (m := mCmp inDict ma mb) (pc_dinN (by omega) ha hb) (fun σ H Q h => tT.two h fun r F R x y u v H1 b o ru rv e q => by
    rcases inDict_ok ru rv e with ⟨p, w, h1, h2, h3⟩ | ⟨p, w, h1, h2, h3, h4⟩
    · exact .inl ⟨p, w, h1, h2, by rw [h3]; exact q⟩
    · exact .inr ⟨p, w, h1, h2, h3, by rw [← h4]; exact q⟩) hm) (se_cmp op_in_seq (by rw [hK]; exact d_inSeq) ha hb hm)) fun σ H Q h => asE_split h
theorem se_nin (hK : X.K = G.K) (hu : X.A.units + 64 < cLine) (ha : PE X a (tE G ma)) (hb : PE X b (tE G mb)) (hm : behindInMarks .NotIn b = false := by rfl) : PE X (.Compare a [.NotIn] [b] pos) (tE G (asE (mCmp ninD ma mb))) := by
  rw [ninD_eq]
  exact PE.mono (PE.or (se_pc (m := mCmp (fun x y => (inDict x y).map (!·)) ma mb) (pc_dnotinN (by omega) ha hb) (fun σ H Q h => tT.two h fun r F R x y u v H1 b o ru rv e q => by
    rcases inDict_ok ru rv (map_not e) with ⟨p, w, h1, h2, h3⟩ | ⟨p, w, h1, h2, h3, h4⟩
    · exact .inl ⟨p, w, h1, h2, by rw [h3, Bool.not_not]; exact q⟩
    · exact .inr ⟨p, w, h1, h2, h3, by have : b = true := by cases b <;> first | rfl | cases h4
                                       rw [← this]; exact q⟩) hm) (se_cmp op_notIn_seq (by rw [hK]; exact d_ninSeq) ha hb hm)) fun σ H Q h => asE_split h
end
end Nb
set_option Elab.async false
set_option linter.all false
set_option maxRecDepth 100000
namespace Nb
open PySem PySem.Spec PyProof.Rows L2

/-! ### built-ins by values -/
def CallD (G : Gx) (rr : List V → Hp → VK → Prop) (f : List D → Option D) : Prop := ∀ r F H R xs us d (Q : VK), Ok1 r F H R → RepL G r F H xs us → f xs = some d →
  (∀ w H' F', Rep G r F' H' d w → Ok1 r F' H' R → Ext r F H F' H' → Q w H') → rr us H Q
def mFun (f : List D → Option D) (ms : Tau → M (List D)) : ME := fun τ => do let xs ← ms τ; opt (f xs)
def orL (f g : List D → Option D) : List D → Option D := fun xs => (f xs).or (g xs)
def MtD0 (G : Gx) (rr : V → List V → Hp → VK → Prop) (f : D → Option D) : Prop := ∀ r F H R x u d (Q : VK), Ok1 r F H R → Rep G r F H x u → f x = some d →
  (∀ w H' F', Rep G r F' H' d w → Ok1 r F' H' R → Ext r F H F' H' → Q w H') → (∃ a, u = .str a) ∧ rr u [] H Q
def MtD1 (G : Gx) (rr : V → List V → Hp → VK → Prop) (f : D → D → Option D) : Prop := (∀ x y d, f x y = some d → ∃ a, x = .str a) ∧ ∀ r F H R x y u v d (Q : VK), Ok1 r F H R → Rep G r F H x u → Rep G r F H y v → f x y = some d →
  (∀ w H' F', Rep G r F' H' d w → Ok1 r F' H' R → Ext r F H F' H' → Q w H') → rr u [v] H Q
def mFun1 (f : D → Option D) (ma : ME) : ME := fun τ => do let x ← ma τ; opt (f x)
section
variable {X : Cx} {G : Gx} {a b c e o : Expr} {es rest : List Expr} {ma mb mc mo : ME} {ms : Tau → M (List D)} {p pos apos cpos : Pos}
theorem CallD.or {rr rr' : List V → Hp → VK → Prop} {f g : List D → Option D} (h : CallD G rr f) (h' : CallD G rr' g) : CallD G (fun xs H Q => rr xs H Q ∨ rr' xs H Q) (orL f g) := by
  intro r F H R xs us d Q o ru e q
  unfold orL at e
  cases ef : f xs with
  | some d' => rw [ef] at e; cases e; exact .inl (h r F H R xs us d Q o ru ef q)
  | none => rw [ef] at e; exact .inr (h' r F H R xs us d Q o ru e q)
theorem fun_ok {rr : List V → Hp → VK → Prop} {f : List D → Option D} (hd : CallD G rr f) {σ : L2.St} {H : Hp} {Q : VK} (h : tE G (mFun f ms) σ H Q) : tA G ms σ H fun vs H1 => rr vs H1 Q :=
  tA.one (k := fun xs => opt (f xs)) h fun r F R xs us H1 d R' o ru e q => by
    obtain ⟨e0, rfl⟩ := opt_some e
    exact hd r F H1 R' xs us d Q o ru e0 q
theorem se_callB {id : String} {x : Str} {rr : List V → Hp → VK → Prop} {f : List D → Option D} (hc : CallR X (.builtin id) rr) (hd : CallD G rr f) (hg : Gl X x) (hm : X.mg x = none) (hv : bootBuiltins x = some (.builtin id)) (ha : PA X (e :: es) (tA G ms))
    (hn : x ≠ "__name__" := by decide) (hdb : (x == ("__debug__" : Str)) = false := by decide) (hs : starEach (e :: es) X.env = (false, eval e X.env) :: starEach es X.env := by rfl) (hpl : (backTo pos (starEach es X.env)).any (·.1) = false := by rfl) :
    PE X (.Call (.Name x p) (e :: es) [] pos) (tE G (mFun f ms)) := PE.mono (pe_callB hc hg hm hv ha hn hdb hs hpl) fun σ H Q h => fun_ok hd h
theorem se_callTy {T : String} {x : Str} {rr : List V → Hp → VK → Prop} {f : List D → Option D} (hc : CallR X (.type T) rr) (hd : CallD G rr f) (hg : Gl X x) (hm : X.mg x = none) (hv : bootBuiltins x = some (.type T)) (ha : PA X (e :: es) (tA G ms))
    (hn : x ≠ "__name__" := by decide) (hdb : (x == ("__debug__" : Str)) = false := by decide) (hs : starEach (e :: es) X.env = (false, eval e X.env) :: starEach es X.env := by rfl) (hpl : (backTo pos (starEach es X.env)).any (·.1) = false := by rfl) :
    PE X (.Call (.Name x p) (e :: es) [] pos) (tE G (mFun f ms)) := PE.mono (pe_callTy hc hg hm hv ha hn hdb hs hpl) fun σ H Q h => fun_ok hd h

/-! len -/
theorem call_lenRd : CallR X (.builtin "len") (fun xs H Q => ∃ a kvs, xs = [V.ref a] ∧ Rd H a (.dK kvs) ∧ Q (.int kvs.length) H) := by
  intro pins s σ H xs us Q I r h
  obtain ⟨a, kvs, rfl, ha, q⟩ := h
  obtain ⟨u, rfl, ru⟩ := vals1 r
  cases ru
  exact d_len I ha fun t s' I' => ⟨.int kvs.length, H, I', ⟨t, rfl⟩, q⟩
def lenV : List D → Option D
  | [.str s] => if s.length ≤ sizeLine then some (.int s.length) else none
  | [.lst ds] => some (.int ds.length)
  | [.tup ds] => some (.int ds.length)
  | [.scr ns] => some (.int ns.length)
  | _ => none
def lenK : List D → Option D
  | [.dct kvs] => some (.int kvs.length)
  | _ => none
def lenD : List D → Option D := orL lenV lenK
theorem RepL.single {r F H} {d : D} {vs : List V} (h : RepL G r F H [d] vs) : ∃ v, vs = [v] ∧ Rep G r F H d v := by
  simp only [RepL] at h
  obtain ⟨w, ws, e, a, rfl⟩ := h
  exact ⟨w, e, a⟩
theorem RepL.pair {r F H} {d d' : D} {vs : List V} (h : RepL G r F H [d, d'] vs) : ∃ v v', vs = [v, v'] ∧ Rep G r F H d v ∧ Rep G r F H d' v' := by
  simp only [RepL] at h
  obtain ⟨w, ws, e, a, w', ws', e', a', rfl⟩ := h
  exact ⟨w, w', by rw [e, e'], a, a'⟩
theorem d_lenV : CallD G (fun xs H Q => ∃ x n, xs = [x] ∧ LenV G.K x H n ∧ Q (.int n) H) lenV := by
  intro r F H R xs us d Q o ru e q
  unfold lenV at e
  split at e
  · split at e
    · cases e
      obtain ⟨v, rfl, ru1⟩ := ru.single
      simp only [Rep] at ru1
      subst ru1
      exact ⟨_, _, rfl, ⟨‹_›, rfl⟩, q _ H F (by simp only [Rep]) o .refl⟩
    · cases e
  · cases e
    obtain ⟨v, rfl, ru1⟩ := ru.single
    simp only [Rep] at ru1
    obtain ⟨a, vs, rfl, l, q1⟩ := ru1
    exact ⟨_, vs.length, rfl, .inl ⟨vs, l.sq, rfl⟩, q _ H F (by simp only [Rep]; rw [q1.length]) o .refl⟩
  · cases e
    obtain ⟨v, rfl, ru1⟩ := ru.single
    simp only [Rep] at ru1
    obtain ⟨a, vs, rfl, l, q1⟩ := ru1
    exact ⟨_, vs.length, rfl, .inr ⟨vs, l.sq, rfl⟩, q _ H F (by simp only [Rep]; rw [q1.length]) o .refl⟩
  · cases e
    obtain ⟨v, rfl, ru1⟩ := ru.single
    simp only [Rep] at ru1
    obtain ⟨a, rfl, l⟩ := ru1
    exact ⟨_, _, rfl, .inl ⟨_, l.sq, rfl⟩, q _ H F (by simp only [Rep, List.length_map]) o .refl⟩
  · cases e
theorem d_lenK : CallD G (fun xs H Q => ∃ a kvs, xs = [V.ref a] ∧ Rd H a (.dK kvs) ∧ Q (.int kvs.length) H) lenK := by
  intro r F H R xs us d Q o ru e q
  unfold lenK at e
  split at e
  · cases e
    obtain ⟨v, rfl, ru1⟩ := ru.single
    simp only [Rep] at ru1
    obtain ⟨a, ws, rfl, f, l, q1⟩ := ru1
    exact ⟨_, ws, rfl, l, q _ H F (by simp only [Rep]; rw [q1.length]) o .refl⟩
  · cases e
theorem se_len (hK : X.K = G.K) (hm : X.mg "len" = none) (ha : PA X [e] (tA G ms)) (hg : Gl X "len" := by rfl) (hs : starEach [e] X.env = (false, eval e X.env) :: starEach [] X.env := by rfl) (hpl : (backTo pos (starEach [] X.env)).any (·.1) = false := by rfl) :
    PE X (.Call (.Name "len" p) [e] [] pos) (tE G (mFun lenD ms)) :=
  se_callB (call_len.or call_lenRd) (CallD.or (by rw [hK]; exact d_lenV) d_lenK) hg hm PySem.boot_len ha (by decide) (by decide) hs hpl

/-! isinstance -/
def tyN : D → Option String
  | .non => some "NoneType"
  | .bl _ => some "bool"
  | .int _ => some "int"
  | .str _ => some "str"
  | .lst _ => some "list"
  | .tup _ => some "tuple"
  | .dct _ => some "dict"
  | _ => none
theorem Rep.ty {r F H} {d : D} {v : V} {t : String} (h : Rep G r F H d v) (e : tyN d = some t) : TyX G.K H v (.type t) := by
  cases d <;> simp only [tyN] at e <;> simp only [Rep] at h
  case non => cases e; subst h; exact .base .non
  case bl b => cases e; subst h; exact .base (.bl _)
  case int b => cases e; subst h; exact .base (.int _)
  case str b => cases e; subst h; exact .base (.str _)
  case lst ds => cases e; obtain ⟨a, vs, rfl, l, _⟩ := h; exact .base (.lst l.2)
  case tup ds =>
    cases e
    obtain ⟨a, vs, rfl, l, _⟩ := h
    rcases l with l | ⟨o, its, n, k1, k2, _⟩
    · exact .base (.tup l.2)
    · exact .kTuple k1 k2
  case dct ds =>
    cases e
    obtain ⟨a, vs, rfl, f, l, _⟩ := h
    rcases l with l | ⟨o, l⟩
    · exact .base (.dK l)
    · exact .fDict l
  all_goals cases e
def tysN : List D → Option (List String)
  | [] => some []
  | .ty n :: r => (tysN r).map (n :: ·)
  | _ => none
def kitBs (t : String) : List String → Option Bool
  | [] => some false
  | n :: r => (kitB t n).bind fun b => if b then some true else kitBs t r
def isiD : List D → Option D
  | [x, .ty n] => (tyN x).bind fun t => (kitB t n).map .bl
  | [x, .tup cs] => (tyN x).bind fun t => (tysN cs).bind fun ns => (kitBs t ns).map .bl
  | _ => none
theorem kitBs_any {K : PySem.W.Frag} {t : String} : ∀ {ns : List String} {b : Bool}, kitBs t ns = some b → PySem.W.kitAny K (.type t) (ns.map Value.type) = some b
  | [], b, h => by cases h; rfl
  | n :: ns, b, h => by
    simp only [kitBs] at h
    cases q : kitB t n with
    | none => rw [q] at h; cases h
    | some k =>
      rw [q] at h
      simp only [Option.bind_some] at h
      cases k with
      | true => cases h; exact kitAny_cons (kit_ty q) (fun z => nomatch z) fun _ => rfl
      | false =>
        have h : kitBs t ns = some b := h
        exact kitAny_cons (kit_ty q) (fun _ => kitBs_any h) fun z => nomatch z
theorem tys_rep {r F H} : ∀ {cs : List D} {ns : List String} {vs : List V}, RepL G r F H cs vs → tysN cs = some ns → vs = ns.map V.ty
  | [], ns, vs, h, e => by simp only [RepL] at h; simp only [tysN, Option.some.injEq] at e; subst h; subst e; rfl
  | d :: cs, ns, vs, h, e => by
    cases d <;> simp only [tysN] at e <;> try (cases e)
    rename_i n
    simp only [RepL] at h
    obtain ⟨w, ws, rfl, a, b⟩ := h
    cases q : tysN cs with
    | none => rw [q] at e; cases e
    | some ns' =>
      rw [q] at e; cases e
      simp only [Rep] at a
      rw [a, tys_rep b q]; rfl
theorem clsV_tys : ∀ ns : List String, Paired ClsV (ns.map V.ty) (ns.map Value.type)
  | [] => .nil
  | n :: r => .cons (.ty n) (clsV_tys r)
theorem d_isi : CallD G (fun xs H Q => rIsi G.K xs H Q ∨ rIsiT G.K xs H Q ∨ rIsiK G.K xs H Q) isiD := by
  intro r F H R xs us d Q o ru e q
  unfold isiD at e
  split at e
  · rename_i x n
    obtain ⟨v, v', rfl, r1, r2⟩ := ru.pair
    simp only [Rep] at r2
    subst r2
    cases et : tyN x with
    | none => rw [et] at e; cases e
    | some t =>
      rw [et] at e
      simp only [Option.bind_some] at e
      cases ek : kitB t n with
      | none => rw [ek] at e; cases e
      | some b =>
        rw [ek] at e; cases e
        exact .inl ⟨v, .ty n, .type t, .type n, b, rfl, .ty n, r1.ty et, kit_ty ek, q _ H F (by simp only [Rep]) o .refl⟩
  · rename_i x cs
    obtain ⟨v, v', rfl, r1, r2⟩ := ru.pair
    simp only [Rep] at r2
    obtain ⟨a, ws, rfl, l, q2⟩ := r2
    cases et : tyN x with
    | none => rw [et] at e; cases e
    | some t =>
      cases ec : tysN cs with
      | none => rw [et, ec] at e; cases e
      | some ns =>
        rw [et, ec] at e
        simp only [Option.bind_some] at e
        cases ek : kitBs t ns with
        | none => rw [ek] at e; cases e
        | some b =>
          rw [ek] at e; cases e
          rcases l with l | l
          · refine .inr (.inl ⟨v, a, ws, .type t, ns.map Value.type, b, rfl, l.2, ?_, r1.ty et, kitBs_any ek, q _ H F (by simp only [Rep]) o .refl⟩)
            rw [tys_rep q2 ec]
            exact clsV_tys ns
          · obtain ⟨ob, its, n, k1, k2, k3, _, k4⟩ := l
            rw [tys_rep q2 ec] at k4
            have k5 := ClsV.all (clsV_tys ns) k4
            obtain ⟨oc, od, dt, sl⟩ := ob
            simp only at k2 k3
            subst k2 k3
            refine .inr (.inr ⟨v, a, od, ns.map Value.type, n, sl, .type t, b, rfl, ?_, r1.ty et, kitBs_any ek, q _ H F (by simp only [Rep]) o .refl⟩)
            rw [k1, ← k5]
  · cases e
theorem se_isi (hK : X.K = G.K) (hm : X.mg "isinstance" = none) (ha : PA X [e, b] (tA G ms)) (hg : Gl X "isinstance" := by rfl) (hs : starEach [e, b] X.env = (false, eval e X.env) :: starEach [b] X.env := by rfl) (hpl : (backTo pos (starEach [b] X.env)).any (·.1) = false := by rfl) :
    PE X (.Call (.Name "isinstance" p) [e, b] [] pos) (tE G (mFun isiD ms)) :=
  se_callB (call_isi.or (call_isiT.or call_isiK)) (by rw [hK]; exact d_isi) hg hm (by decide +kernel) ha (by decide) (by decide) hs hpl
end
end Nb
set_option Elab.async false
set_option linter.all false
set_option maxRecDepth 100000
namespace Nb
open PySem PySem.Spec PyProof.Rows L2
section
variable {X : Cx} {G : Gx} {a b c e o : Expr} {es rest : List Expr} {ma mb mc mo : ME} {ms : Tau → M (List D)} {p pos apos cpos : Pos}
/-! ### all, any, int, min, max, tuple, list, dict -/
def blsD : List D → Option (List Bool)
  | [] => some []
  | .bl b :: r => (blsD r).map (b :: ·)
  | _ => none
theorem bls_rep {r F H} : ∀ {ds : List D} {bs : List Bool} {vs : List V}, RepL G r F H ds vs → blsD ds = some bs → vs = bs.map V.bl
  | [], bs, vs, h, e => by simp only [RepL] at h; simp only [blsD, Option.some.injEq] at e; subst h; subst e; rfl
  | d :: ds, bs, vs, h, e => by
    cases d <;> simp only [blsD] at e <;> try (cases e)
    rename_i b
    simp only [RepL] at h
    obtain ⟨w, ws, rfl, a, h'⟩ := h
    cases q : blsD ds with
    | none => rw [q] at e; cases e
    | some bs' =>
      rw [q] at e; cases e
      simp only [Rep] at a
      rw [a, bls_rep h' q]; rfl
def allD : List D → Option D | [.lst ds] => (blsD ds).map fun bs => .bl (bs.all id) | _ => none
def anyD : List D → Option D | [.lst ds] => (blsD ds).map fun bs => .bl (bs.any id) | _ => none
theorem d_all : CallD G (rAll G.K) allD := by
  intro r F H R xs us d Q o ru e q
  unfold allD at e
  split at e
  · rename_i ds
    obtain ⟨v, rfl, r1⟩ := ru.single
    simp only [Rep] at r1
    obtain ⟨a, vs, rfl, l, q1⟩ := r1
    cases h : blsD ds with
    | none => rw [h] at e; cases e
    | some bs =>
      rw [h] at e; cases e
      have := bls_rep q1 h
      subst this
      exact ⟨a, bs, rfl, l.sq, q _ H F (by simp only [Rep]) o .refl⟩
  · cases e
theorem d_any : CallD G (rAny G.K) anyD := by
  intro r F H R xs us d Q o ru e q
  unfold anyD at e
  split at e
  · rename_i ds
    obtain ⟨v, rfl, r1⟩ := ru.single
    simp only [Rep] at r1
    obtain ⟨a, vs, rfl, l, q1⟩ := r1
    cases h : blsD ds with
    | none => rw [h] at e; cases e
    | some bs =>
      rw [h] at e; cases e
      have := bls_rep q1 h
      subst this
      exact ⟨a, bs, rfl, l.sq, q _ H F (by simp only [Rep]) o .refl⟩
  · cases e
theorem se_all (hK : X.K = G.K) (hc : X.calm = true) (hm : X.mg "all" = none) (ha : PA X [e] (tA G ms)) (hg : Gl X "all" := by rfl) (hs : starEach [e] X.env = (false, eval e X.env) :: starEach [] X.env := by rfl) (hpl : (backTo pos (starEach [] X.env)).any (·.1) = false := by rfl) :
    PE X (.Call (.Name "all" p) [e] [] pos) (tE G (mFun allD ms)) := se_callB (cr_all hc) (by rw [hK]; exact d_all) hg hm (by decide +kernel) ha (by decide) (by decide) hs hpl
theorem se_any (hK : X.K = G.K) (hc : X.calm = true) (hm : X.mg "any" = none) (ha : PA X [e] (tA G ms)) (hg : Gl X "any" := by rfl) (hs : starEach [e] X.env = (false, eval e X.env) :: starEach [] X.env := by rfl) (hpl : (backTo pos (starEach [] X.env)).any (·.1) = false := by rfl) :
    PE X (.Call (.Name "any" p) [e] [] pos) (tE G (mFun anyD ms)) := se_callB (cr_any hc) (by rw [hK]; exact d_any) hg hm (by decide +kernel) ha (by decide) (by decide) hs hpl
def intF : List D → Option D | [.int i] => some (.int i) | [.bl k] => some (.int (if k then 1 else 0)) | _ => none
theorem d_int : CallD G (fun xs H Q => (∃ i, xs = [V.int i] ∧ Q (.int i) H) ∨ ∃ k, xs = [V.bl k] ∧ Q (.int (if k then 1 else 0)) H) intF := by
  intro r F H R xs us d Q o ru e q
  unfold intF at e
  split at e
  · cases e
    obtain ⟨v, rfl, r1⟩ := ru.single
    simp only [Rep] at r1
    subst r1
    exact .inl ⟨_, rfl, q _ H F (by simp only [Rep]) o .refl⟩
  · cases e
    obtain ⟨v, rfl, r1⟩ := ru.single
    simp only [Rep] at r1
    subst r1
    exact .inr ⟨_, rfl, q _ H F (by simp only [Rep]) o .refl⟩
  · cases e
theorem se_int1 (hm : X.mg "int" = none) (ha : PA X [e] (tA G ms)) (hg : Gl X "int" := by rfl) (hs : starEach [e] X.env = (false, eval e X.env) :: starEach [] X.env := by rfl) (hpl : (backTo pos (starEach [] X.env)).any (·.1) = false := by rfl) :
    PE X (.Call (.Name "int" p) [e] [] pos) (tE G (mFun intF ms)) := se_callTy call_int1 d_int hg hm (by decide +kernel) ha (by decide) (by decide) hs hpl
def min2 : List D → Option D | [.int i, .int j] => some (.int (if j < i then j else i)) | _ => none
def max2 : List D → Option D | [.int i, .int j] => some (.int (if j > i then j else i)) | _ => none
theorem d_two {g : Int → Int → Int} {f : List D → Option D} (h : ∀ xs d, f xs = some d → ∃ i j, xs = [.int i, .int j] ∧ d = .int (g i j)) : CallD G (fun xs H Q => ∃ i j, xs = [V.int i, V.int j] ∧ Q (.int (g i j)) H) f := by
  intro r F H R xs us d Q o ru e q
  obtain ⟨i, j, rfl, rfl⟩ := h xs d e
  obtain ⟨v, v', rfl, r1, r2⟩ := ru.pair
  simp only [Rep] at r1 r2
  subst r1; subst r2
  exact ⟨i, j, rfl, q _ H F (by simp only [Rep]) o .refl⟩
theorem se_min2 (hc : X.calm = true) (hm : X.mg "min" = none) (ha : PA X [a, b] (tA G ms)) (hg : Gl X "min" := by rfl) (hs : starEach [a, b] X.env = (false, eval a X.env) :: starEach [b] X.env := by rfl) (hpl : (backTo pos (starEach [b] X.env)).any (·.1) = false := by rfl) :
    PE X (.Call (.Name "min" p) [a, b] [] pos) (tE G (mFun min2 ms)) := se_callB (call_min2 hc) (d_two (g := fun i j => if j < i then j else i) fun xs d e => by
      unfold min2 at e; split at e <;> first | (cases e; exact ⟨_, _, rfl, rfl⟩) | cases e) hg hm (by decide +kernel) ha (by decide) (by decide) hs hpl
theorem se_max2 (hc : X.calm = true) (hm : X.mg "max" = none) (ha : PA X [a, b] (tA G ms)) (hg : Gl X "max" := by rfl) (hs : starEach [a, b] X.env = (false, eval a X.env) :: starEach [b] X.env := by rfl) (hpl : (backTo pos (starEach [b] X.env)).any (·.1) = false := by rfl) :
    PE X (.Call (.Name "max" p) [a, b] [] pos) (tE G (mFun max2 ms)) := se_callB (call_max2 hc) (d_two (g := fun i j => if j > i then j else i) fun xs d e => by
      unfold max2 at e; split at e <;> first | (cases e; exact ⟨_, _, rfl, rfl⟩) | cases e) hg hm (by decide +kernel) ha (by decide) (by decide) hs hpl
def tupF : List D → Option D | [.lst ds] => some (.tup ds) | [.tup ds] => some (.tup ds) | _ => none
def lstF : List D → Option D | [.lst ds] => some (.lst ds) | [.tup ds] => some (.lst ds) | _ => none
theorem d_tup : CallD G (fun xs H Q => ∃ p ys, xs = [V.ref p] ∧ ((SqL G.K H p ys ∧ ∀ l, H l = none → Q (.ref l) (upd H l (.tup ys))) ∨ (SqT G.K H p ys ∧ Q (.ref p) H))) tupF := by
  intro r F H R xs us d Q o ru e q
  unfold tupF at e
  split at e
  · cases e
    obtain ⟨v, rfl, r1⟩ := ru.single
    simp only [Rep] at r1
    obtain ⟨a, vs, rfl, l, q1⟩ := r1
    exact ⟨a, vs, rfl, .inl ⟨l.sq, fun n hn => q _ _ _ (rep_tup o hn q1) (new_frozen o hn).1 (new_frozen o hn).2⟩⟩
  · cases e
    obtain ⟨v, rfl, r1⟩ := ru.single
    have r2 := r1
    simp only [Rep] at r1
    obtain ⟨a, vs, rfl, l, q1⟩ := r1
    exact ⟨a, vs, rfl, .inr ⟨l.sq, q _ H F r2 o .refl⟩⟩
  · cases e
theorem d_lst : CallD G (fun xs H Q => ∃ p ys, xs = [V.ref p] ∧ (SqL G.K H p ys ∨ SqT G.K H p ys) ∧ ∀ l, H l = none → Q (.ref l) (upd H l (.lst ys))) lstF := by
  intro r F H R xs us d Q o ru e q
  unfold lstF at e
  split at e
  · cases e
    obtain ⟨v, rfl, r1⟩ := ru.single
    simp only [Rep] at r1
    obtain ⟨a, vs, rfl, l, q1⟩ := r1
    exact ⟨a, vs, rfl, .inl l.sq, fun n hn => q _ _ _ (rep_lst o hn q1) (new_frozen o hn).1 (new_frozen o hn).2⟩
  · cases e
    obtain ⟨v, rfl, r1⟩ := ru.single
    simp only [Rep] at r1
    obtain ⟨a, vs, rfl, l, q1⟩ := r1
    exact ⟨a, vs, rfl, .inr l.sq, fun n hn => q _ _ _ (rep_lst o hn q1) (new_frozen o hn).1 (new_frozen o hn).2⟩
  · cases e
theorem se_tuple (hK : X.K = G.K) (hm : X.mg "tuple" = none) (ha : PA X [e] (tA G ms)) (hg : Gl X "tuple" := by rfl) (hs : starEach [e] X.env = (false, eval e X.env) :: starEach [] X.env := by rfl) (hpl : (backTo pos (starEach [] X.env)).any (·.1) = false := by rfl) :
    PE X (.Call (.Name "tuple" p) [e] [] pos) (tE G (mFun tupF ms)) := se_callTy call_tuple_of (by rw [hK]; exact d_tup) hg hm (by decide +kernel) ha (by decide) (by decide) hs hpl
theorem se_list (hK : X.K = G.K) (hm : X.mg "list" = none) (ha : PA X [e] (tA G ms)) (hg : Gl X "list" := by rfl) (hs : starEach [e] X.env = (false, eval e X.env) :: starEach [] X.env := by rfl) (hpl : (backTo pos (starEach [] X.env)).any (·.1) = false := by rfl) :
    PE X (.Call (.Name "list" p) [e] [] pos) (tE G (mFun lstF ms)) := se_callTy call_list_of (by rw [hK]; exact d_lst) hg hm (by decide +kernel) ha (by decide) (by decide) hs hpl
def dctF : List D → Option D | [.dct kvs] => some (.dct kvs) | _ => none
theorem d_dct : CallD G (fun xs H Q => ∃ (a : Addr) (kvs : List (Key × V)), xs = [.ref a] ∧ Rd H a (.dK kvs) ∧ ∀ p, H p = none → Q (.ref p) (upd H p (.dK kvs))) dctF := by
  intro r F H R xs us d Q o ru e q
  unfold dctF at e
  split at e
  · cases e
    obtain ⟨v, rfl, r1⟩ := ru.single
    simp only [Rep] at r1
    obtain ⟨a, ws, rfl, f, l, q1⟩ := r1
    exact ⟨a, ws, rfl, l, fun n hn => q _ _ _ (rep_dct o hn q1) (new_frozen o hn).1 (new_frozen o hn).2⟩
  · cases e
theorem se_dict (hm : X.mg "dict" = none) (ha : PA X [e] (tA G ms)) (hg : Gl X "dict" := by rfl) (hs : starEach [e] X.env = (false, eval e X.env) :: starEach [] X.env := by rfl) (hpl : (backTo pos (starEach [] X.env)).any (·.1) = false := by rfl) :
    PE X (.Call (.Name "dict" p) [e] [] pos) (tE G (mFun dctF ms)) := se_callTy call_dictD d_dct hg hm (by decide +kernel) ha (by decide) (by decide) hs hpl

/-! ### methods of texts -/
theorem se_m0 {id : String} {name : Str} {rr : V → List V → Hp → VK → Prop} {f : D → Option D} (slot : Slot "str" name id) (ty : typeOf (.builtin id) = pure (.type "method_descriptor")) (rule : MtR X id rr) (hd : MtD0 G rr f) (ho : PE X o (tE G mo))
    (hbase : attributeBase o name X.env (eval o X.env) = eval o X.env := by rfl) (hline : (apos.endLine == pos.line) = true := by rfl) : PE X (.Call (.Attribute o name apos) [] [] pos) (tE G (mFun1 f mo)) :=
  PE.mono (pe_m0 slot ty rule ho hbase hline) fun σ H Q h => tE.one (k := fun x => opt (f x)) h fun r F R x u H1 d R' o ru e q => by
    obtain ⟨e0, rfl⟩ := opt_some e
    exact hd r F H1 R' x u d Q o ru e0 q
theorem se_m1 {id : String} {name : Str} {rr : V → List V → Hp → VK → Prop} {f : D → D → Option D} (slot : Slot "str" name id) (ty : typeOf (.builtin id) = pure (.type "method_descriptor")) (rule : MtR X id rr) (hd : MtD1 G rr f) (ho : PE X o (tE G mo)) (he : PE X e (tE G ma))
    (hs : starEach [e] X.env = [(false, eval e X.env)] := by rfl) (hbase : attributeBase o name X.env (eval o X.env) = eval o X.env := by rfl) (hline : (apos.endLine == pos.line) = true := by rfl) : PE X (.Call (.Attribute o name apos) [e] [] pos) (tE G (mOp f mo ma)) :=
  PE.mono (pe_m1 slot ty rule ho he hs hbase hline) fun σ H Q h => by
    obtain ⟨r, F, τ, R, d, R', ht, ho, e, q⟩ := h
    obtain ⟨x, R1, e1, e2⟩ := M.bind_some e
    obtain ⟨y, Rb, e3, e4⟩ := M.bind_some e2
    obtain ⟨e5, rfl⟩ := opt_some e4
    refine ⟨r, F, τ, R, x, R1, ht, ho, e1, fun u H1 F1 ru o1 x1 => ⟨?_, r, F1, τ, R1, y, R', ht.ext ho x1, o1, e3, fun v H2 F2 rv o2 x2 => ?_⟩⟩
    · obtain ⟨a, ea⟩ := hd.1 x y d e5
      subst ea
      simp only [Rep] at ru
      exact ⟨a, ru⟩
    · exact hd.2 r F2 H2 R' x y u v d Q o2 (x2.rep o1 ru) rv e5 fun w H' F' rw o' x' => q w H' F' rw o' ((x1.trans o1 x2).trans o2 x')
def s0 (C : Str → Bool) (g : Str → D) : D → Option D | .str a => if C a then some (g a) else none | _ => none
theorem d_s0 {C : Str → Prop} {cb : Str → Bool} {g : Str → V} {g' : Str → D} (hg : ∀ a, vD (g' a) = some (g a)) (hC : ∀ a, cb a = true → C a) : MtD0 G (fun x xs H Q => ∃ a, x = .str a ∧ xs = [] ∧ C a ∧ Q (g a) H) (s0 cb g') := by
  intro r F H R x u d Q o ru e q
  unfold s0 at e
  split at e
  · rename_i a
    split at e
    · cases e
      simp only [Rep] at ru
      exact ⟨⟨a, ru⟩, a, ru, rfl, hC a ‹_›, q _ H F (.of_flat (hg a)) o .refl⟩
    · cases e
  · cases e
def s1 (g : Str → Str → D) : D → D → Option D | .str a, .str b => some (g a b) | _, _ => none
theorem d_s1 {g : Str → Str → V} {g' : Str → Str → D} (hg : ∀ a b, vD (g' a b) = some (g a b)) : MtD1 G (fun x xs H Q => ∃ a b, x = .str a ∧ xs = [.str b] ∧ Q (g a b) H) (s1 g') := by
  refine ⟨fun x y d e => ?_, fun r F H R x y u v d Q o ru rv e q => ?_⟩
  · unfold s1 at e
    split at e
    · exact ⟨_, rfl⟩
    · cases e
  · unfold s1 at e
    split at e
    · cases e
      simp only [Rep] at ru rv
      exact ⟨_, _, ru, by rw [rv], q _ H F (.of_flat (hg _ _)) o .refl⟩
    · cases e
def isasciiD : D → Option D := s0 (fun _ => true) fun a => .bl (Txt.isascii a)
def isalnumD : D → Option D := s0 (fun _ => true) fun a => .bl (Txt.isalnum a)
def lowerD : D → Option D := s0 (fun a => decide (a.length ≤ 5592405)) fun a => .str (Txt.lower a)
def startsD : D → D → Option D := s1 fun a b => .bl (Txt.startswith a b)
def endsD : D → D → Option D := s1 fun a b => .bl (Txt.endswith a b)
theorem se_isascii (ho : PE X o (tE G mo)) (hbase : attributeBase o "isascii" X.env (eval o X.env) = eval o X.env := by rfl) (hline : (apos.endLine == pos.line) = true := by rfl) : PE X (.Call (.Attribute o "isascii" apos) [] [] pos) (tE G (mFun1 isasciiD mo)) :=
  se_m0 F.slot_str_isascii F.type_str_isascii mt_isascii (d_s0 (g := fun a => .bl (Txt.isascii a)) (fun _ => rfl) fun _ _ => True.intro) ho hbase hline
theorem se_isalnum (ho : PE X o (tE G mo)) (hbase : attributeBase o "isalnum" X.env (eval o X.env) = eval o X.env := by rfl) (hline : (apos.endLine == pos.line) = true := by rfl) : PE X (.Call (.Attribute o "isalnum" apos) [] [] pos) (tE G (mFun1 isalnumD mo)) :=
  se_m0 F.slot_str_isalnum F.type_str_isalnum mt_isalnum (d_s0 (g := fun a => .bl (Txt.isalnum a)) (fun _ => rfl) fun _ _ => True.intro) ho hbase hline
theorem se_lower (ho : PE X o (tE G mo)) (hbase : attributeBase o "lower" X.env (eval o X.env) = eval o X.env := by rfl) (hline : (apos.endLine == pos.line) = true := by rfl) : PE X (.Call (.Attribute o "lower" apos) [] [] pos) (tE G (mFun1 lowerD mo)) :=
  se_m0 F.slot_str_lower F.type_str_lower mt_lower (d_s0 (g := fun a => .str (Txt.lower a)) (fun _ => rfl) fun _ h => of_decide_eq_true h) ho hbase hline
theorem se_starts (ho : PE X o (tE G mo)) (he : PE X e (tE G ma)) (hs : starEach [e] X.env = [(false, eval e X.env)] := by rfl) (hbase : attributeBase o "startswith" X.env (eval o X.env) = eval o X.env := by rfl) (hline : (apos.endLine == pos.line) = true := by rfl) : PE X (.Call (.Attribute o "startswith" apos) [e] [] pos) (tE G (mOp startsD mo ma)) :=
  se_m1 F.slot_str_startswith F.type_str_startswith mt_startswith (d_s1 (g := fun a b => .bl (Txt.startswith a b)) fun _ _ => rfl) ho he hs hbase hline
def splitD : D → D → Option D | .str a, .str b => if b.length ≠ 0 ∧ a.length ≤ 16000000 then some (.lst ((Txt.split a b).map D.str)) else none | _, _ => none
theorem d_split : MtD1 G (fun x xs H Q => ∃ a b, x = .str a ∧ xs = [.str b] ∧ (b.length == 0) = false ∧ a.length + 2 ≤ sizeLine ∧ rNewStrs (Txt.split a b) H Q) splitD := by
  refine ⟨fun x y d e => ?_, fun r F H R x y u v d Q o ru rv e q => ?_⟩
  · unfold splitD at e
    split at e
    · exact ⟨_, rfl⟩
    · cases e
  · unfold splitD at e
    split at e
    · split at e
      · rename_i a b hc
        cases e
        simp only [Rep] at ru rv
        refine ⟨a, b, ru, by rw [rv], by simpa using hc.1, by rw [sizeLine_eq]; have := hc.2; omega, fun n hn => ?_⟩
        exact q _ _ _ (rep_lst o hn (RepL.strs.mpr rfl)) (new_frozen o hn).1 (new_frozen o hn).2
      · cases e
    · cases e
theorem se_split (ho : PE X o (tE G mo)) (he : PE X e (tE G ma)) (hs : starEach [e] X.env = [(false, eval e X.env)] := by rfl) (hbase : attributeBase o "split" X.env (eval o X.env) = eval o X.env := by rfl) (hline : (apos.endLine == pos.line) = true := by rfl) : PE X (.Call (.Attribute o "split" apos) [e] [] pos) (tE G (mOp splitD mo ma)) :=
  se_m1 F.slot_str_split F.type_str_split mt_split d_split ho he hs hbase hline
def partD : D → D → Option D | .str a, .str b => if b.length ≠ 0 ∧ a.length ≤ 16000000 then some (.tup [.str (Txt.partition a b).1, .str (Txt.partition a b).2.1, .str (Txt.partition a b).2.2]) else none | _, _ => none
theorem d_part : MtD1 G (fun x xs H Q => ∃ a b, x = .str a ∧ xs = [.str b] ∧ (b.length == 0) = false ∧ a.length ≤ sizeLine ∧
      ∀ p, H p = none → Q (.ref p) (upd H p (.tup [.str (Txt.partition a b).1, .str (Txt.partition a b).2.1, .str (Txt.partition a b).2.2]))) partD := by
  refine ⟨fun x y d e => ?_, fun r F H R x y u v d Q o ru rv e q => ?_⟩
  · unfold partD at e
    split at e
    · exact ⟨_, rfl⟩
    · cases e
  · unfold partD at e
    split at e
    · split at e
      · rename_i a b hc
        cases e
        simp only [Rep] at ru rv
        refine ⟨a, b, ru, by rw [rv], by simpa using hc.1, by rw [sizeLine_eq]; have := hc.2; omega, fun n hn => ?_⟩
        exact q _ _ _ (rep_tup o hn (RepL.strs (xs := [_, _, _]).mpr rfl)) (new_frozen o hn).1 (new_frozen o hn).2
      · cases e
    · cases e
theorem se_part (ho : PE X o (tE G mo)) (he : PE X e (tE G ma)) (hs : starEach [e] X.env = [(false, eval e X.env)] := by rfl) (hbase : attributeBase o "partition" X.env (eval o X.env) = eval o X.env := by rfl) (hline : (apos.endLine == pos.line) = true := by rfl) : PE X (.Call (.Attribute o "partition" apos) [e] [] pos) (tE G (mOp partD mo ma)) :=
  se_m1 F.slot_str_partition F.type_str_partition mt_partition d_part ho he hs hbase hline
def strsD : List D → Option (List Str)
  | [] => some []
  | .str s :: r => (strsD r).map (s :: ·)
  | _ => none
theorem strs_rep {r F H} : ∀ {ds : List D} {bs : List Str} {vs : List V}, RepL G r F H ds vs → strsD ds = some bs → vs = bs.map V.str
  | [], bs, vs, h, e => by simp only [RepL] at h; simp only [strsD, Option.some.injEq] at e; subst h; subst e; rfl
  | d :: ds, bs, vs, h, e => by
    cases d <;> simp only [strsD] at e <;> try (cases e)
    rename_i b
    simp only [RepL] at h
    obtain ⟨w, ws, rfl, a, h'⟩ := h
    cases q : strsD ds with
    | none => rw [q] at e; cases e
    | some bs' =>
      rw [q] at e; cases e
      simp only [Rep] at a
      rw [a, strs_rep h' q]; rfl
def joinD : D → D → Option D
  | .str a, .lst ds => (strsD ds).bind fun ys => if (ys.map (·.length)).sum + ys.length * a.length ≤ 16777216 then some (.str (Txt.join a ys)) else none
  | .str a, .tup ds => (strsD ds).bind fun ys => if (ys.map (·.length)).sum + ys.length * a.length ≤ 16777216 then some (.str (Txt.join a ys)) else none
  | _, _ => none
theorem d_join : MtD1 G (fun x xs H Q => ∃ a p, ∃ ys : List Str, x = .str a ∧ xs = [.ref p] ∧ (SqL G.K H p (ys.map V.str) ∨ SqT G.K H p (ys.map V.str)) ∧ (ys.map (·.length)).sum + ys.length * a.length ≤ 16777216 ∧ Q (.str (Txt.join a ys)) H) joinD := by
  refine ⟨fun x y d e => ?_, fun r F H R x y u v d Q o ru rv e q => ?_⟩
  · unfold joinD at e
    split at e
    · exact ⟨_, rfl⟩
    · exact ⟨_, rfl⟩
    · cases e
  · unfold joinD at e
    split at e
    · rename_i a ds
      cases h : strsD ds with
      | none => rw [h] at e; cases e
      | some ys =>
        rw [h] at e
        simp only [Option.bind_some] at e
        split at e
        · cases e
          simp only [Rep] at ru rv
          obtain ⟨n, vs, rfl, l, q1⟩ := rv
          have := strs_rep q1 h
          subst this
          exact ⟨a, n, ys, ru, rfl, .inl l.sq, ‹_›, q _ H F (by simp only [Rep]) o .refl⟩
        · cases e
    · rename_i a ds
      cases h : strsD ds with
      | none => rw [h] at e; cases e
      | some ys =>
        rw [h] at e
        simp only [Option.bind_some] at e
        split at e
        · cases e
          simp only [Rep] at ru rv
          obtain ⟨n, vs, rfl, l, q1⟩ := rv
          have := strs_rep q1 h
          subst this
          exact ⟨a, n, ys, ru, rfl, .inr l.sq, ‹_›, q _ H F (by simp only [Rep]) o .refl⟩
        · cases e
    · cases e
theorem se_join (hK : X.K = G.K) (ho : PE X o (tE G mo)) (he : PE X e (tE G ma)) (hs : starEach [e] X.env = [(false, eval e X.env)] := by rfl) (hbase : attributeBase o "join" X.env (eval o X.env) = eval o X.env := by rfl) (hline : (apos.endLine == pos.line) = true := by rfl) : PE X (.Call (.Attribute o "join" apos) [e] [] pos) (tE G (mOp joinD mo ma)) :=
  se_m1 F.slot_str_join F.type_str_join mt_join (by rw [hK]; exact d_join) ho he hs hbase hline
/-! dict.get -/
def getD1 : D → D → Option D | .dct kvs, k => (keyD k).map fun k => (valD kvs k).getD .non | _, _ => none
theorem se_get (hu : X.A.units + 64 < cLine) (ho : PE X o (tE G mo)) (he : PE X e (tE G ma)) (m : M1 X o "get" apos e cpos) : PE X (.Call (.Attribute o "get" apos) [e] [] cpos) (tE G (mOp getD1 mo ma)) :=
  PE.mono (pe_dget1 (by omega) ho he m) fun σ H Q h => by
    obtain ⟨r, F, τ, R, d, R', ht, ho, e, q⟩ := h
    obtain ⟨x, R1, e1, e2⟩ := M.bind_some e
    obtain ⟨y, Rb, e3, e4⟩ := M.bind_some e2
    obtain ⟨e5, rfl⟩ := opt_some e4
    unfold getD1 at e5
    split at e5
    · rename_i kvs
      cases hk : keyD y with
      | none => rw [hk] at e5; cases e5
      | some k =>
        rw [hk] at e5; cases e5
        have q : ∀ v H' F', Rep G r F' H' ((valD kvs k).getD .non) v → Ok1 r F' H' R' → Ext r F H F' H' → Q v H' := q
        refine ⟨r, F, τ, R, .dct kvs, R1, ht, ho, e1, fun u H1 F1 ru o1 x1 => ?_⟩
        obtain ⟨n, _, hu1, hd, _, _⟩ := ru.dlook k
        refine ⟨n, hu1, hd, r, F1, τ, R1, y, R', ht.ext ho x1, o1, e3, fun v H2 F2 rv o2 x2 => ?_⟩
        obtain ⟨n', w, hu2, _, g, z⟩ := (x2.rep o1 ru).dlook k
        rw [hu1] at hu2
        cases hu2
        rw [rv.key hk]
        refine ⟨w, g, ?_⟩
        rcases z with ⟨z1, z2⟩ | ⟨d', w', z1, z2, z3⟩
        · rw [z1] at q
          rw [z2]
          exact q .non H2 F2 (by simp only [Rep, Option.getD_none]) o2 (x1.trans o1 x2)
        · rw [z1] at q
          rw [z2]
          exact q w' H2 F2 z3 o2 (x1.trans o1 x2)
    · cases e5
end
end Nb
set_option Elab.async false
set_option linter.all false
set_option maxRecDepth 100000
namespace Nb
open PySem PySem.Spec PyProof.Rows L2
/-! ### fields -/
theorem look_zip : ∀ {fs : List Str} {vs : List V} {i : Nat} {f : Str}, fs.Nodup → fs[i]? = some f → (fs.zip vs).lookup f = vs[i]?
  | [], vs, i, f, _, h => by simp at h
  | g :: fs, [], i, f, _, h => by simp
  | g :: fs, v :: vs, 0, f, _, h => by
    simp at h
    subst h
    simp [List.lookup]
  | g :: fs, v :: vs, i + 1, f, hn, h => by
    simp at h
    obtain ⟨n1, n2⟩ := List.nodup_cons.mp hn
    have ne : (f == g) = false := by
      simp only [beq_eq_false_iff_ne]
      intro e
      exact n1 (e ▸ List.mem_of_getElem? h)
    simp only [List.zip_cons_cons, List.lookup, ne, List.getElem?_cons_succ]
    exact look_zip n2 h
theorem look_none : ∀ {fs : List Str} {vs : List V} {f : Str}, f ∉ fs → (fs.zip vs).lookup f = none
  | [], vs, f, _ => by simp
  | g :: fs, [], f, _ => by simp
  | g :: fs, v :: vs, f, h => by
    have ne : (f == g) = false := by
      simp only [beq_eq_false_iff_ne]
      intro e
      exact h (e ▸ List.mem_cons_self)
    simp only [List.zip_cons_cons, List.lookup, ne]
    exact look_none fun z => h (List.mem_cons_of_mem _ z)
structure ClsOk (K : PySem.W.Frag) (G : Gx) (c : Str) : Prop where
  cl : Cls K (G.ca c)
  nd : (G.fl c).Nodup
  na : ∀ f ∈ G.fl c, NoAttr K (G.ca c) f
def fldD (c : Str) (i : Nat) : D → Option D | .ins c' ds => if c' = c then ds[i]? else none | _ => none
section
variable {X : Cx} {G : Gx} {a b c e o : Expr} {es rest : List Expr} {ma mb mc mo : ME} {ms : Tau → M (List D)} {p pos apos cpos : Pos}
theorem se_fld {c f : Str} {i : Nat} (T : ClsOk X.K G c) (hi : (G.fl c)[i]? = some f) (he : PE X e (tE G ma)) (hb : attributeBase e f X.env (eval e X.env) = eval e X.env := by rfl) : PE X (.Attribute e f pos) (tE G (mFun1 (fldD c i) ma)) :=
  PE.mono (pe_fld he hb) fun σ H Q h => tE.one (k := fun x => opt (fldD c i x)) h fun r F R x u H1 d R' o ru e q => by
    obtain ⟨e0, rfl⟩ := opt_some e
    unfold fldD at e0
    split at e0
    · split at e0
      · rename_i hc
        subst hc
        simp only [Rep] at ru
        obtain ⟨n, dx, vs, rfl, f1, f2, l, z, q1⟩ := ru
        obtain ⟨w, h1, h2⟩ := q1.get e0
        exact ⟨n, _, dx, _, w, rfl, l, T.cl, T.na f (List.mem_of_getElem? hi), by rw [look_zip T.nd hi]; exact h1, q w H1 F h2 o .refl⟩
      · cases e0
    · cases e0

/-! ### own defs -/
def spM (G : Gx) (n : Nat) (mf : List D → M D) : Sp := fun vs H Q _ => ∃ r F ds R d R', RepL G r F H ds vs ∧ Ok1 r F H R ∧ ds.length = n ∧ mf ds R = some (d, R') ∧ ∀ v H' F', Rep G r F' H' d v → Ok1 r F' H' R' → Ext r F H F' H' → Q v H'
/-- a def that gives what mf gives of n arguments, the last of which may be dds -/
structure DefOk (P : Program) (w : World) (K : PySem.W.Frag) (mg : Str → Option Value) (base : Heap) (G : Gx) (k : Nat) (x : Str) (n : Nat) (dds : List D) (mf : List D → M D) : Prop where
  ex : ∃ f fd ps ds dvs, FnOk P w K mg base CX0 k f fd ps (spM G n mf) ∧ mg x = some (.ref f) ∧ PySem.W.keepIn K (.ref f) = true ∧ Binds K fd ps ds ∧ Vals dvs ds ∧ ∀ r F H, RepL G r F H dds dvs
theorem DefOk.mono {P w K mg base j k x n} {dds : List D} {mf : List D → M D} (T : DefOk P w K mg base G j x n dds mf) (h : j ≤ k) : DefOk P w K mg base G k x n dds mf := by
  obtain ⟨f, fd, ps, ds, dvs, h1, h2⟩ := T.ex
  exact ⟨f, fd, ps, ds, dvs, h1.mono h, h2⟩
def mCall (n : Nat) (dds : List D) (mf : List D → M D) (ms : Tau → M (List D)) : ME := fun τ => do let xs ← ms τ; if xs.length + dds.length = n then mf (xs ++ dds) else opt none
theorem call_ok {n : Nat} {dds : List D} {mf : List D → M D} {dvs : List V} {E : XK} (hd : ∀ r F H, RepL G r F H dds dvs) {σ : L2.St} {H : Hp} {Q : VK} (h : tE G (mCall n dds mf ms) σ H Q) : tA G ms σ H fun vs H1 => spM G n mf (vs ++ dvs) H1 Q E :=
  tA.one (k := fun xs => if xs.length + dds.length = n then mf (xs ++ dds) else opt none) h fun r F R xs us H1 d R' o ru e q => by
    split at e
    · exact ⟨r, F, _, R, d, R', ru.append (hd r F H1), o, by rw [List.length_append]; assumption, e, q⟩
    · cases (opt_some e).1
theorem se_call {k n : Nat} {x : Str} {dds : List D} {mf : List D → M D} (U : DefOk X.prog X.w X.K X.mg X.base G k x n dds mf) (hr : Room k X.A) (ha : PA X (e :: es) (tA G ms)) (hx : Passes CX0 X E0) (hg : Gl X x := by rfl)
    (hdb : (x == ("__debug__" : Str)) = false := by decide) (hs : starEach (e :: es) X.env = (false, eval e X.env) :: starEach es X.env := by rfl) (hpl : (backTo pos (starEach es X.env)).any (·.1) = false := by rfl) :
    PE X (.Call (.Name x p) (e :: es) [] pos) (tE G (mCall n dds mf ms)) := by
  obtain ⟨f, fd, ps, ds, dvs, h1, h2, h3, h4, h5, h6⟩ := U.ex
  exact PE.mono (pe_call h1 hr hg h2 h3 h4 h5 hx ha hdb hs hpl) fun σ H Q h => call_ok h6 h
theorem se_call0 {k n : Nat} {x : Str} {dds : List D} {mf : List D → M D} (U : DefOk X.prog X.w X.K X.mg X.base G k x n dds mf) (hr : Room k X.A) (hx : Passes CX0 X E0) (hg : Gl X x := by rfl)
    (hdb : (x == ("__debug__" : Str)) = false := by decide) :
    PE X (.Call (.Name x p) [] [] pos) (tE G (mCall n dds mf fun _ => pure [])) := by
  obtain ⟨f, fd, ps, ds, dvs, h1, h2, h3, h4, h5, h6⟩ := U.ex
  refine PE.mono (pe_call0 h1 hr hg h2 h3 h4 h5 hx hdb) fun σ H Q h => ?_
  obtain ⟨r, F, τ, R, d, R', ht, ho, e, q⟩ := h
  have e : (if ([] : List D).length + dds.length = n then mf ([] ++ dds) else opt none : M D) R = some (d, R') := e
  split at e
  · exact ⟨r, F, _, R, d, R', h6 r F H, ho, by simpa using ‹([] : List D).length + dds.length = n›, e, q⟩
  · cases (opt_some e).1
/-! methods -/
structure MetOk (P : Program) (w : World) (K : PySem.W.Frag) (mg : Str → Option Value) (base : Heap) (G : Gx) (k : Nat) (c m : Str) (n : Nat) (dds : List D) (mf : List D → M D) : Prop where
  ex : ∃ f fd ps ds dvs, FnOk P w K mg base CX0 k f fd ps (spM G n mf) ∧ Meth K (G.ca c) m f ∧ Binds K fd ps ds ∧ Vals dvs ds ∧ (∀ r F H, RepL G r F H dds dvs) ∧ m ∉ G.fl c
def insOf (c : Str) : D → Bool | .ins c' _ => decide (c' = c) | _ => false
def mMeth (c : Str) (n : Nat) (dds : List D) (mf : List D → M D) (mo : ME) (ms : Tau → M (List D)) : ME := fun τ => do let x ← mo τ; let xs ← ms τ; if insOf c x = true ∧ xs.length + dds.length + 1 = n then mf (x :: (xs ++ dds)) else opt none
theorem insOf_rep {c : Str} {r F H} {x : D} {u : V} (h : insOf c x = true) (ru : Rep G r F H x u) : ∃ a dx vs, u = .ref a ∧ H a = some (.ins (G.ca c) dx ((G.fl c).zip vs)) := by
  cases x <;> simp only [insOf] at h <;> try (cases h)
  rename_i c' ds
  have h := of_decide_eq_true h
  subst h
  simp only [Rep] at ru
  obtain ⟨n, dx, vs, rfl, f1, f2, l, z, q1⟩ := ru
  exact ⟨n, dx, vs, rfl, l⟩
theorem meth_ok {c m : Str} {n : Nat} {dds : List D} {mf : List D → M D} {dvs : List V} {E : XK} (hd : ∀ r F H, RepL G r F H dds dvs) (hm : m ∉ G.fl c) {σ : L2.St} {H : Hp} {Q : VK} (h : tE G (mMeth c n dds mf mo ms) σ H Q) : tMeth (G.ca c) m (spM G n mf) dvs E (tE G mo) (tA G ms) σ H Q := by
  obtain ⟨r, F, τ, R, d, R', ht, ho, e, q⟩ := h
  obtain ⟨x, R1, e1, e2⟩ := M.bind_some e
  obtain ⟨xs, Rb, e3, e4⟩ := M.bind_some e2
  split at e4
  · rename_i hc
    refine ⟨r, F, τ, R, x, R1, ht, ho, e1, fun u H1 F1 ru o1 x1 => ?_⟩
    obtain ⟨n1, dx, vs, rfl, l⟩ := insOf_rep hc.1 ru
    refine ⟨n1, dx, _, rfl, l, look_none hm, r, F1, τ, R1, xs, Rb, ht.ext ho x1, o1, e3, fun us H2 F2 rv o2 x2 => ?_⟩
    refine ⟨r, F2, _, Rb, d, R', ?_, o2, ?_, e4, fun v H' F' rw o' x' => q v H' F' rw o' ((x1.trans o1 x2).trans o2 x')⟩
    · simp only [RepL]
      exact ⟨_, _, rfl, x2.rep o1 ru, rv.append (hd r F2 H2)⟩
    · rw [List.length_cons, List.length_append]; exact hc.2
  · cases (opt_some e4).1
theorem se_meth {k n : Nat} {c m : Str} {dds : List D} {mf : List D → M D} {pl : Sem Bool} (T : ClsOk X.K G c) (U : MetOk X.prog X.w X.K X.mg X.base G k c m n dds mf) (hr : Room k X.A) (ho : PE X o (tE G mo)) (ha : PA X (e :: es) (tA G ms)) (hx : Passes CX0 X E0)
    (hs : starEach (e :: es) X.env = (false, eval e X.env) :: starEach es X.env := by rfl) (hpl : (backTo pos (starEach es X.env)).any (·.1) = false := by rfl)
    (hev : eval (.Call (.Attribute o m apos) (e :: es) [] pos) X.env = (do
      let ov ← eval o X.env
      standAt apos.atName
      let (f, first) ← holding [ov] (getMethod ov m pl)
      callWith pos f first (backTo pos (starEach (e :: es) X.env)) (backToKw pos (keywordEach [] X.env))) := by rfl) :
    PE X (.Call (.Attribute o m apos) (e :: es) [] pos) (tE G (mMeth c n dds mf mo ms)) := by
  obtain ⟨f, fd, ps, ds, dvs, h1, h2, h3, h4, h5, h6⟩ := U.ex
  exact PE.mono (pe_meth ho T.cl h2 h1 hr h3 h4 hx ha hs hpl hev) fun σ H Q h => meth_ok h5 h6 h
theorem se_meth0 {k n : Nat} {c m : Str} {dds : List D} {mf : List D → M D} {pl : Sem Bool} (T : ClsOk X.K G c) (U : MetOk X.prog X.w X.K X.mg X.base G k c m n dds mf) (hr : Room k X.A) (ho : PE X o (tE G mo)) (hx : Passes CX0 X E0)
    (hev : eval (.Call (.Attribute o m apos) [] [] pos) X.env = (do
      let ov ← eval o X.env
      standAt apos.atName
      let (f, first) ← holding [ov] (getMethod ov m pl)
      callWith pos f first (backTo pos (starEach [] X.env)) (backToKw pos (keywordEach [] X.env))) := by rfl) :
    PE X (.Call (.Attribute o m apos) [] [] pos) (tE G (mMeth c n dds mf mo fun _ => pure [])) := by
  obtain ⟨f, fd, ps, ds, dvs, h1, h2, h3, h4, h5, h6⟩ := U.ex
  refine PE.mono (pe_meth0 ho T.cl h2 h1 hr h3 h4 hx hev) fun σ H Q h => ?_
  obtain ⟨r, F, τ, R, d, R', ht, ho, e, q⟩ := h
  obtain ⟨x, R1, e1, e2⟩ := M.bind_some e
  have e2 : (if insOf c x = true ∧ ([] : List D).length + dds.length + 1 = n then mf (x :: ([] ++ dds)) else opt none : M D) R1 = some (d, R') := e2
  split at e2
  · rename_i hc
    refine ⟨r, F, τ, R, x, R1, ht, ho, e1, fun u H1 F1 ru o1 x1 => ?_⟩
    obtain ⟨n1, dx, vs, rfl, l⟩ := insOf_rep hc.1 ru
    refine ⟨n1, dx, _, rfl, l, look_none h6, r, F1, _, R1, d, R', ?_, o1, ?_, e2, fun v H' F' rw o' x' => q v H' F' rw o' (x1.trans o1 x')⟩
    · simp only [RepL, List.nil_append]
      exact ⟨_, _, rfl, ru, h5 r F1 H1⟩
    · rw [List.nil_append, List.length_cons]; have := hc.2; simp only [List.length_nil] at this; omega
  · cases (opt_some e2).1
/-! new instances -/
structure ExtX (r : Option Addr) (x dx : Addr) (F : Fz) (H : Hp) (F' : Fz) (H' : Hp) : Prop where
  mono : ∀ a, F a → F' a
  same : ∀ a o, H a = some o → a ≠ x → a ≠ dx → r ≠ some a → H' a = some o
  new : ∀ a, F' a → F a ∨ H a = none ∨ a = x ∨ a = dx
def spI (G : Gx) (c : Str) (n : Nat) (mi : List D → M (List D)) : Sp := fun vs H Q _ => ∃ r F x dx us ds R fs R', vs = .ref x :: us ∧ RepL G r F H ds us ∧ ds.length = n ∧ Ok1 r F H R ∧ ¬ F x ∧ ¬ F dx ∧ r ≠ some x ∧ r ≠ some dx ∧ dx ≠ x ∧
  H x = some (.ins (G.ca c) dx []) ∧ H dx = some (.own x) ∧ mi ds R = some (fs, R') ∧
  ∀ H' F' ws dx', RepL G r F' H' fs ws → Ok1 r F' H' R' → ExtX r x dx F H F' H' → H' x = some (.ins (G.ca c) dx' ((G.fl c).zip ws)) → (G.fl c).length = ws.length → ¬ F' x → ¬ F' dx' → (dx' = dx ∨ H dx' = none) → (∃ u, H' dx' = some u) → Q .non H'
structure MakOk (P : Program) (w : World) (K : PySem.W.Frag) (mg : Str → Option Value) (base : Heap) (G : Gx) (k : Nat) (c : Str) (n : Nat) (dds : List D) (mi : List D → M (List D)) : Prop where
  ex : ∃ f fd ps ds dvs, FnOk P w K mg base CX0 k f fd ps (spI G c n mi) ∧ mg c = some (.ref (G.ca c)) ∧ Mk K (G.ca c) f ∧ Binds K fd ps ds ∧ Vals dvs ds ∧ ∀ r F H, RepL G r F H dds dvs
def mMake (c : Str) (n : Nat) (dds : List D) (mi : List D → M (List D)) (ms : Tau → M (List D)) : ME := fun τ => do let xs ← ms τ; let fs ← (if xs.length + dds.length = n then mi (xs ++ dds) else opt none); pure (.ins c fs)
theorem make_core {c : Str} {n : Nat} {mi : List D → M (List D)} {r : Option Addr} {F : Fz} {H : Hp} {ds fs : List D} {us : List V} {R R' : Sr} {Q : VK} {E : XK} (ru : RepL G r F H ds us) (hn : ds.length = n) (o : Ok1 r F H R) (e : mi ds R = some (fs, R'))
    (q : ∀ v H' F', Rep G r F' H' (.ins c fs) v → Ok1 r F' H' R' → Ext r F H F' H' → Q v H') :
    ∀ x dx, H x = none → H dx = none → dx ≠ x → spI G c n mi (.ref x :: us) (upd (upd H dx (.own x)) x (.ins (G.ca c) dx [])) (fun v H2 => v = .non ∧ Q (.ref x) H2) E := by
  intro x dx nx nd ne
  have a1 := new_own (o := .own x) o nd
  have nx1 : upd H dx (.own x) x = none := by rw [upd_ne (Ne.symm ne)]; exact nx
  have a2 := new_own (o := .ins (G.ca c) dx []) a1.1 nx1
  have hF : ∀ a, F a → H a ≠ none := fun a h z => by obtain ⟨u, h⟩ := o.fz a h; rw [z] at h; cases h
  have rne : ∀ a, H a = none → r ≠ some a := fun a h z => by obtain ⟨u, h'⟩ := o.srcIn z; rw [h] at h'; cases h'
  refine ⟨r, F, x, dx, us, ds, R, fs, R', rfl, (a1.2.trans a1.1 a2.2).repL o ru, hn, a2.1, fun h => hF x h nx, fun h => hF dx h nd, rne x nx, rne dx nd, ne, upd_same, by rw [upd_ne ne]; exact upd_same, e, ?_⟩
  intro H' F' ws dx' rw' o' xx hx hl nfx nfd hdx hdu
  have nd' : H dx' = none := by
    rcases hdx with rfl | h
    · exact nd
    · by_cases z1 : dx' = x
      · rw [z1]; exact nx
      · by_cases z2 : dx' = dx
        · rw [z2]; exact nd
        · rw [upd_ne z1, upd_ne z2] at h; exact h
  refine ⟨rfl, q (.ref x) H' (fun a => F' a ∨ a = x ∨ a = dx') ?_ ⟨fun a h => ?_, ?_⟩ ⟨fun a h => .inl (xx.mono a h), fun a u h nr => ?_, fun a h => ?_⟩⟩
  · simp only [Rep]
    refine ⟨x, dx', ws, rfl, .inr (.inl rfl), .inr (.inr rfl), hx, hl, ?_⟩
    exact RepL.mono (fun a h => .inl h) (fun a _ => .of fun _ z => z) fs ws rw'
  · rcases h with h | h | h
    · exact o'.fz a h
    · exact ⟨_, by rw [h]; exact hx⟩
    · rw [h]; exact hdu
  · have s := o'.sr
    cases R' with
    | none => exact s
    | some ns =>
      obtain ⟨b, e1, e2, e3⟩ := s
      refine ⟨b, e1, e2, fun h => ?_⟩
      rcases h with h | h | h
      · exact e3 h
      · rw [h] at e1; exact rne x nx e1
      · rw [h] at e1; exact rne dx' nd' e1
  · have n1 : a ≠ x := ne_of_none h nx
    have n2 : a ≠ dx := ne_of_none h nd
    exact xx.same a u (by rw [upd_ne n1, upd_ne n2]; exact h) n1 n2 nr
  · rcases h with h | h | h
    · rcases xx.new a h with h' | h' | h' | h'
      · exact .inl h'
      · refine .inr ?_
        by_cases z1 : a = x
        · rw [z1]; exact nx
        · by_cases z2 : a = dx
          · rw [z2]; exact nd
          · rw [upd_ne z1, upd_ne z2] at h'; exact h'
      · exact .inr (by rw [h']; exact nx)
      · exact .inr (by rw [h']; exact nd)
    · exact .inr (by rw [h]; exact nx)
    · exact .inr (by rw [h]; exact nd')
theorem se_make {k n : Nat} {c : Str} {dds : List D} {mi : List D → M (List D)} (U : MakOk X.prog X.w X.K X.mg X.base G k c n dds mi) (hr : Room (k + 1) X.A) (ha : PA X (e :: es) (tA G ms)) (hx : Passes CX0 X E0) (hg : Gl X c := by rfl)
    (hdb : (c == ("__debug__" : Str)) = false := by decide) (hs : starEach (e :: es) X.env = (false, eval e X.env) :: starEach es X.env := by rfl) (hpl : (backTo pos (starEach es X.env)).any (·.1) = false := by rfl) :
    PE X (.Call (.Name c p) (e :: es) [] pos) (tE G (mMake c n dds mi ms)) := by
  obtain ⟨f, fd, ps, ds, dvs, h1, h2, h3, h4, h5, h6⟩ := U.ex
  refine PE.mono (pe_make h3 h1 hr hg h2 h4 h5 hx ha hdb hs hpl) fun σ H Q h => ?_
  obtain ⟨r, F, τ, R, d, R', ht, ho, e, q⟩ := h
  obtain ⟨xs, R1, e1, e2⟩ := M.bind_some e
  obtain ⟨fs, Rb, e3, e4⟩ := M.bind_some e2
  cases e4
  split at e3
  · rename_i hc
    refine ⟨r, F, τ, R, xs, R1, ht, ho, e1, fun us H1 F1 ru o1 x1 => ?_⟩
    exact make_core (ru.append (h6 r F1 H1)) (by rw [List.length_append]; exact hc) o1 e3 fun v H' F' rw o' x' => q v H' F' rw o' (x1.trans o1 x')
  · cases (opt_some e3).1
theorem se_make0 {k n : Nat} {c : Str} {dds : List D} {mi : List D → M (List D)} (U : MakOk X.prog X.w X.K X.mg X.base G k c n dds mi) (hr : Room (k + 1) X.A) (hx : Passes CX0 X E0) (hg : Gl X c := by rfl)
    (hdb : (c == ("__debug__" : Str)) = false := by decide) : PE X (.Call (.Name c p) [] [] pos) (tE G (mMake c n dds mi fun _ => pure [])) := by
  obtain ⟨f, fd, ps, ds, dvs, h1, h2, h3, h4, h5, h6⟩ := U.ex
  refine PE.mono (pe_make0 h3 h1 hr hg h2 h4 h5 hx hdb) fun σ H Q h => ?_
  obtain ⟨r, F, τ, R, d, R', ht, ho, e, q⟩ := h
  obtain ⟨xs, R1, e1, e2⟩ := M.bind_some e
  obtain ⟨fs, Rb, e3, e4⟩ := M.bind_some e2
  cases e4
  cases e1
  split at e3
  · rename_i hc
    show ∀ x dx, H x = none → H dx = none → dx ≠ x → _
    exact make_core (us := [] ++ dvs) (by simpa using h6 r F H) (by simpa using hc) ho e3 q
  · cases (opt_some e3).1
end
end Nb
set_option Elab.async false
set_option linter.all false
set_option maxRecDepth 100000
namespace Nb
open PySem PySem.Spec PyProof.Rows L2
/-! ### statements: slots hold values, or objects of the function's own that it still changes -/
inductive Own where
  | lst (ds : List D) | dct (kvs : List (Key × D)) | dl (kvs : List (Str × List D)) | obj (c : Str) (ds : List D)
inductive Sv where
  | val (d : D) | own (o : Own)
abbrev TauS := List (Option Sv)
inductive Out where
  | stuck | nx (τ : TauS) (R : Sr) | rt (d : D) (R : Sr) | ro (ob : Own) (R : Sr) | bk (τ : TauS) (R : Sr) | ct (τ : TauS) (R : Sr)
abbrev MS := TauS → Sr → Out
def OwnAt (G : Gx) (r : Option Addr) (F : Fz) (H : Hp) (A : Addr → Prop) (p : Addr) : Own → Prop
  | .lst ds => ∃ vs, H p = some (.lst vs) ∧ RepL G r F H ds vs
  | .dct kvs => ∃ ws, H p = some (.dK ws) ∧ RepK G r F H kvs ws
  | .obj c ds => ∃ dx vs, A dx ∧ dx ≠ p ∧ H p = some (.ins (G.ca c) dx ((G.fl c).zip vs)) ∧ H dx = some (.own p) ∧ RepL G r F H ds vs ∧ ds.length ≤ (G.fl c).length
  | .dl kvs => ∃ L : List (Str × Addr × List D), kvs = L.map (fun x => (x.1, x.2.2)) ∧ H p = some (.dK (L.map fun x => (Sum.inr x.1, V.ref x.2.1))) ∧ (L.map (·.2.1)).Nodup ∧ (L.map (·.1)).Nodup ∧
      ∀ x ∈ L, A x.2.1 ∧ x.2.1 ≠ p ∧ ∃ vs, H x.2.1 = some (.lst vs) ∧ RepL G r F H x.2.2 vs
def SvAt (G : Gx) (r : Option Addr) (F : Fz) (H : Hp) (A : Addr → Prop) : Sv → V → Prop
  | .val d, v => Rep G r F H d v
  | .own o, v => ∃ p, v = .ref p ∧ A p ∧ OwnAt G r F H A p o
/-- the heap at the start, and the object that is being made -/
structure Ht where
  hp : Hp
  me : Option Addr
instance : CoeFun Ht fun _ => Addr → Option HO := ⟨fun h => h.hp⟩
instance : Coe Ht Hp := ⟨fun h => h.hp⟩
structure HoldS (G : Gx) (r : Option Addr) (F : Fz) (H : Hp) (H0 : Ht) (W : Nat → Addr → Prop) (σ : L2.St) (τ : TauS) : Prop where
  len : σ.length = τ.length
  at_ : ∀ (i : Nat) s, τ[i]? = some (some s) → ∃ v, σ[i]? = some (some v) ∧ SvAt G r F H (W i) s v
  sep : ∀ i a, W i a → ¬ F a ∧ r ≠ some a ∧ H0 a = none ∧ ∃ o, H a = some o
  dis : ∀ i j a, W i a → W j a → i = j
  me : ∀ (i : Nat) c ds, τ[i]? = some (some (Sv.own (.obj c ds))) → ∃ p, σ[i]? = some (some (V.ref p)) ∧ H0.me = some p
section
variable {G : Gx} {r : Option Addr} {F F' : Fz} {H H' : Hp} {H0 : Ht} {R : Sr} {W : Nat → Addr → Prop} {σ : L2.St} {τ : TauS}
theorem OwnAt.mono {A A' : Addr → Prop} {p : Addr} {o : Own} (h : OwnAt G r F H A p o) (hp : A p) (m : ∀ a, F a → F' a) (k : ∀ a, F a → Kp H H' a) (ke : ∀ a, A a → ∀ u, H a = some u → H' a = some u) (ma : ∀ a, A a → A' a) : OwnAt G r F' H' A' p o := by
  cases o with
  | lst ds => obtain ⟨vs, a, b⟩ := h; exact ⟨vs, ke p hp _ a, RepL.mono m k _ _ b⟩
  | dct ds => obtain ⟨vs, a, b⟩ := h; exact ⟨vs, ke p hp _ a, RepK.mono m k _ _ b⟩
  | obj c ds => obtain ⟨dx, vs, a, b, c1, d, e, f⟩ := h; exact ⟨dx, vs, ma _ a, b, ke p hp _ c1, ke dx a _ d, RepL.mono m k _ _ e, f⟩
  | dl kvs =>
    obtain ⟨L, a, b, n1, n2, c⟩ := h
    refine ⟨L, a, ke p hp _ b, n1, n2, fun x hx => ?_⟩
    obtain ⟨c1, c2, vs, c3, c4⟩ := c x hx
    exact ⟨ma _ c1, c2, vs, ke _ c1 _ c3, RepL.mono m k _ _ c4⟩
theorem HoldS.ext (h : HoldS G r F H H0 W σ τ) (o : Ok1 r F H R) (e : Ext r F H F' H') : HoldS G r F' H' H0 W σ τ where
  len := h.len
  at_ := fun i s q => by
    obtain ⟨v, a, b⟩ := h.at_ i s q
    refine ⟨v, a, ?_⟩
    cases s with
    | val d => exact e.rep o b
    | own ob =>
      obtain ⟨p, rfl, hp, b⟩ := b
      exact ⟨p, rfl, hp, b.mono hp e.mono (e.kp o) (fun a ha u hu => e.same a u hu (h.sep i a ha).2.1) fun _ z => z⟩
  sep := fun i a ha => by
    obtain ⟨a1, a2, a3, u, a4⟩ := h.sep i a ha
    refine ⟨fun f => ?_, a2, a3, u, e.same a u a4 a2⟩
    rcases e.new a f with f | f
    · exact a1 f
    · rw [a4] at f; cases f
  dis := h.dis
  me := h.me
def viewA (τ : TauS) : Tau := τ.map fun s => match s with | some (.val d) => some d | _ => none
def viewB (τ : TauS) : Tau := τ.map fun s => match s with | some (.val d) => some d | some (.own (.lst ds)) => some (.lst ds) | some (.own (.dct kvs)) => some (.dct kvs) | _ => none
theorem HoldS.viewA (h : HoldS G r F H H0 W σ τ) : HoldT G r F H σ (viewA τ) := ⟨by unfold Nb.viewA; rw [List.length_map]; exact h.len, fun i d q => by
  unfold Nb.viewA at q
  rw [List.getElem?_map] at q
  cases e : τ[i]? with
  | none => rw [e] at q; cases q
  | some s =>
    rw [e] at q
    cases s with
    | none => cases q
    | some s =>
      cases s with
      | own o => cases q
      | val d' =>
        cases q
        exact h.at_ i _ e⟩
/-- all own objects seen as they stand -/
def FW (F : Fz) (W : Nat → Addr → Prop) : Fz := fun a => F a ∨ ∃ i, W i a
theorem HoldS.okB (h : HoldS G r F H H0 W σ τ) (o : Ok1 r F H R) : Ok1 r (FW F W) H R := by
  refine ⟨fun a k => ?_, ?_⟩
  · rcases k with k | ⟨i, k⟩
    · exact o.fz a k
    · exact (h.sep i a k).2.2.2
  · have s := o.sr
    cases R with
    | none => exact s
    | some ns =>
      obtain ⟨b, e1, e2, e3⟩ := s
      refine ⟨b, e1, e2, fun k => ?_⟩
      rcases k with k | ⟨i, k⟩
      · exact e3 k
      · exact (h.sep i b k).2.1 e1
theorem HoldS.viewB (h : HoldS G r F H H0 W σ τ) : HoldT G r (FW F W) H σ (viewB τ) := ⟨by unfold Nb.viewB; rw [List.length_map]; exact h.len, fun i d q => by
  have mo : ∀ a, F a → FW F W a := fun a k => .inl k
  have kp : ∀ a, F a → Kp H H a := fun a _ => .of fun _ z => z
  unfold Nb.viewB at q
  rw [List.getElem?_map] at q
  cases e : τ[i]? with
  | none => rw [e] at q; cases q
  | some s =>
    rw [e] at q
    cases s with
    | none => cases q
    | some s =>
      obtain ⟨v, a, b⟩ := h.at_ i _ e
      cases s with
      | val d' =>
        cases q
        exact ⟨v, a, Rep.mono mo kp _ _ b⟩
      | own ob =>
        cases ob with
        | lst ds =>
          cases q
          obtain ⟨p, rfl, hp, vs, b1, b2⟩ := b
          refine ⟨_, a, ?_⟩
          simp only [Rep]
          exact ⟨p, vs, rfl, ⟨.inr ⟨i, hp⟩, b1⟩, RepL.mono mo kp _ _ b2⟩
        | dct ds =>
          cases q
          obtain ⟨p, rfl, hp, vs, b1, b2⟩ := b
          refine ⟨_, a, ?_⟩
          simp only [Rep]
          exact ⟨p, vs, rfl, .inr ⟨i, hp⟩, .of b1, RepK.mono mo kp _ _ b2⟩
        | dl kvs => cases q
        | obj c ds => cases q⟩
/-- back behind an expression in which the own objects were seen -/
theorem backB {F1 : Fz} (h : HoldS G r F H H0 W σ τ) (o : Ok1 r F H R) {R' : Sr} (o' : Ok1 r F1 H' R') (e : Ext r (FW F W) H F1 H') : Ok1 r F H' R' ∧ Ext r F H F H' := by
  have x : Ext r F H F H' := ⟨fun _ z => z, e.same, fun _ z => .inl z⟩
  refine ⟨⟨fun a k => ?_, ?_⟩, x⟩
  · obtain ⟨u, q⟩ := o.fz a k
    exact ⟨u, e.same a u q (o.nofz k)⟩
  · have s := o'.sr
    cases R' with
    | none => exact s
    | some ns =>
      obtain ⟨b, e1, e2, e3⟩ := s
      exact ⟨b, e1, e2, fun k => e3 (e.mono b (.inl k))⟩
end
/-- what stays as it is through the statements -/
def StF (F : Fz) (H : Hp) (F' : Fz) (H' : Hp) : Prop := (∀ a, F a → F' a) ∧ (∀ a, F a → Kp H H' a) ∧ ∀ a o u, F a → H a = some (.frz o u) → H' a = some (.frz o u)
theorem Kp.trans {H1 H2 H3 : Hp} {a : Addr} (x : Kp H1 H2 a) (y : Kp H2 H3 a) : Kp H1 H3 a :=
  ⟨fun u n q => y.1 u n (x.1 u n q), fun _ _ _ q => y.2.1 _ _ _ (x.2.1 _ _ _ q), fun _ q => y.2.2.1 _ (x.2.2.1 _ q), fun _ q => y.2.2.2.1 _ (x.2.2.2.1 _ q), fun _ q => y.2.2.2.2 _ (x.2.2.2.2 _ q)⟩
theorem StF.refl {F H} : StF F H F H := ⟨fun _ h => h, fun _ _ => .of fun _ z => z, fun _ _ _ _ h => h⟩
theorem StF.trans {F H F1 H1 F2 H2} (a : StF F H F1 H1) (b : StF F1 H1 F2 H2) : StF F H F2 H2 := ⟨fun c h => b.1 c (a.1 c h), fun c h => (a.2.1 c h).trans (b.2.1 c (a.1 c h)), fun c o u h k => b.2.2 c o u (a.1 c h) (a.2.2 c o u h k)⟩
theorem Ext.st {r F H F' H' R} (e : Ext r F H F' H') (o : Ok1 r F H R) : StF F H F' H' := ⟨e.mono, e.kp o, fun a od u f h => e.same a _ h (o.nofz f)⟩
theorem StF.rep {G r F H F' H'} (e : StF F H F' H') {d : D} {v : V} (h : Rep G r F H d v) : Rep G r F' H' d v := Rep.mono e.1 e.2.1 d v h
theorem StF.repL {G r F H F' H'} (e : StF F H F' H') {d : List D} {v : List V} (h : RepL G r F H d v) : RepL G r F' H' d v := RepL.mono e.1 e.2.1 d v h
/-- how an expression is taken in a statement -/
def EvS (G : Gx) (te : TE) (ev : TauS → M D) : Prop := ∀ r (H0 : Ht) F0 F W τ R d R' (σ : L2.St) H (Q : VK), Ext r F0 H0 F H → Ok1 r F H R → HoldS G r F H H0 W σ τ → ev τ R = some (d, R') →
  (∀ v H' F', Rep G r F' H' d v → Ok1 r F' H' R' → Ext r F0 H0 F' H' → Ext r F H F' H' → HoldS G r F' H' H0 W σ τ → Q v H') → te σ H Q
def EvT (G : Gx) (te : TT) (ev : TauS → M Bool) : Prop := ∀ r (H0 : Ht) F0 F W τ R d R' (σ : L2.St) H (Q : Bool → Hp → Prop), Ext r F0 H0 F H → Ok1 r F H R → HoldS G r F H H0 W σ τ → ev τ R = some (d, R') →
  (∀ H' F', Ok1 r F' H' R' → Ext r F0 H0 F' H' → StF F H F' H' → HoldS G r F' H' H0 W σ τ → Q d H') → te σ H Q
def evA (m : ME) : TauS → M D := fun τ => m (viewA τ)
def evB (m : ME) : TauS → M D := fun τ => do let d ← m (viewB τ); opt (if (vD d).isSome then some d else none)
def evT (m : Tau → M Bool) : TauS → M Bool := fun τ => m (viewB τ)
section
variable {G : Gx}
theorem evA_ok {m : ME} : EvS G (tE G m) (evA m) := fun r H0 F0 F W τ R d R' σ H Q x o h e q =>
  ⟨r, F, viewA τ, R, d, R', h.viewA, o, e, fun v H' F' rv o' x' => q v H' F' rv o' (x.trans o x') x' (h.ext o x')⟩
theorem evB_ok {m : ME} : EvS G (tE G m) (evB m) := fun r H0 F0 F W τ R d R' σ H Q x o h e q => by
  obtain ⟨d', R1, e1, e2⟩ := M.bind_some e
  obtain ⟨e3, rfl⟩ := opt_some e2
  split at e3
  · rename_i hv
    cases e3
    refine ⟨r, FW F W, viewB τ, R, d, _, h.viewB, h.okB o, e1, fun v H' F' rv o' x' => ?_⟩
    obtain ⟨o2, x2⟩ := backB h o o' x'
    obtain ⟨u, hu⟩ := Option.isSome_iff_exists.mp hv
    exact q v H' F (by rw [rv.flat hu]; exact .of_flat hu) o2 (x.trans o x2) x2 (h.ext o x2)
  · cases e3
theorem evT_ok {m : Tau → M Bool} : EvT G (tT G m) (evT m) := fun r H0 F0 F W τ R d R' σ H Q x o h e q =>
  ⟨r, FW F W, viewB τ, R, d, R', h.viewB, h.okB o, e, fun H' F' o' x' =>
    let ⟨o2, x2⟩ := backB h o o' x'
    q H' F o2 (x.trans o x2) (x2.st o) (h.ext o x2)⟩
end
def OutOk (G : Gx) (r : Option Addr) (H0 : Ht) (F0 : Fz) (F : Fz) (H : Hp) (D : Ends) : Out → Prop
  | .stuck => False
  | .nx τ' R' => ∀ σ' H' F' W', StF F H F' H' → Ext r F0 H0 F' H' → Ok1 r F' H' R' → HoldS G r F' H' H0 W' σ' τ' → D.nx σ' H'
  | .bk τ' R' => ∀ σ' H' F' W', StF F H F' H' → Ext r F0 H0 F' H' → Ok1 r F' H' R' → HoldS G r F' H' H0 W' σ' τ' → D.bk σ' H'
  | .ct τ' R' => ∀ σ' H' F' W', StF F H F' H' → Ext r F0 H0 F' H' → Ok1 r F' H' R' → HoldS G r F' H' H0 W' σ' τ' → D.ct σ' H'
  | .rt d R' => ∀ v H' F', StF F H F' H' → Rep G r F' H' d v → Ext r F0 H0 F' H' → Ok1 r F' H' R' → D.rt v H'
  | .ro ob R' => ∀ p H' F', StF F H F' H' → H0 p = none → ¬ F' p → r ≠ some p → OwnAt G r F' H' (fun a => a = p) p ob → Ext r F0 H0 F' H' → Ok1 r F' H' R' → D.rt (.ref p) H'
def tSS (G : Gx) (m : MS) : TS := fun D σ H => ∃ r, ∃ H0 : Ht, ∃ F0 F W τ R, Ext r F0 H0 F H ∧ Ok1 r F H R ∧ HoldS G r F H H0 W σ τ ∧ OutOk G r H0 F0 F H D (m τ R)
theorem OutOk.st {G r} {H0 : Ht} {F0 F H F1 H1 D} {o : Out} (s : StF F H F1 H1) (h : OutOk G r H0 F0 F H D o) : OutOk G r H0 F0 F1 H1 D o := by
  cases o with
  | stuck => exact h
  | rt d R => exact fun v H' F' z => h v H' F' (s.trans z)
  | ro ob R => exact fun v H' F' z => h v H' F' (s.trans z)
  | nx τ R => exact fun σ' H' F' W' z => h σ' H' F' W' (s.trans z)
  | bk τ R => exact fun σ' H' F' W' z => h σ' H' F' W' (s.trans z)
  | ct τ R => exact fun σ' H' F' W' z => h σ' H' F' W' (s.trans z)
def mNil : MS := fun τ R => .nx τ R
def mSeq (m1 m2 : MS) : MS := fun τ R => match m1 τ R with | .nx τ' R' => m2 τ' R' | o => o
def mRet (ev : TauS → M D) : MS := fun τ R => match ev τ R with | some (d, R') => .rt d R' | none => .stuck
def mRetN : MS := fun τ R => .rt .non R
def mDrop (ev : TauS → M D) : MS := fun τ R => match ev τ R with | some (_, R') => .nx τ R' | none => .stuck
def mBrk : MS := fun τ R => .bk τ R
def mCnt : MS := fun τ R => .ct τ R
def mIfS (ev : TauS → M Bool) (m1 m2 : MS) : MS := fun τ R => match ev τ R with | some (true, R') => m1 τ R' | some (false, R') => m2 τ R' | none => .stuck
def mStuck : MS := fun _ _ => .stuck
section
variable {X : Cx} {G : Gx} {e c : Expr} {te : TE} {tt : TT} {ev : TauS → M D} {et : TauS → M Bool} {st : Stmt} {rest ba bb : List Stmt} {m m1 m2 : MS} {pos : Pos}
theorem ss_nil : PSs X [] (tSS G mNil) := PSs.mono pss_nil fun D σ H h => by
  obtain ⟨r, H0, F0, F, W, τ, R, x, o, k, q⟩ := h
  exact q σ H F W .refl x o k
theorem ss_cons (h1 : PS X st (tSS G m1)) (h2 : PSs X rest (tSS G m2)) : PSs X (st :: rest) (tSS G (mSeq m1 m2)) := PSs.mono (pss_cons h1 h2) fun D σ H h => by
  obtain ⟨r, H0, F0, F, W, τ, R, x, o, k, q⟩ := h
  refine ⟨r, H0, F0, F, W, τ, R, x, o, k, ?_⟩
  unfold mSeq at q
  cases e1 : m1 τ R with
  | stuck => rw [e1] at q; exact q
  | nx τ' R' => rw [e1] at q; exact fun σ' H' F' W' z x' o' k' => ⟨r, H0, F0, F', W', τ', R', x', o', k', q.st z⟩
  | rt d R' => rw [e1] at q; exact q
  | ro d R' => rw [e1] at q; exact q
  | bk τ' R' => rw [e1] at q; exact q
  | ct τ' R' => rw [e1] at q; exact q
theorem ss_one (h1 : PS X st (tSS G m1)) : PSs X [st] (tSS G m1) := pss_one h1
theorem sp_ret (he : PE X e te) (hv : EvS G te ev) : PS X (.Return (some e) pos) (tSS G (mRet ev)) := PS.mono (ps_ret he) fun D σ H h => by
  obtain ⟨r, H0, F0, F, W, τ, R, x, o, k, q⟩ := h
  unfold mRet at q
  cases e1 : ev τ R with
  | none => rw [e1] at q; exact q.elim
  | some p =>
    rw [e1] at q
    exact hv r H0 F0 F W τ R p.1 p.2 σ H _ x o k e1 fun v H' F' rv o' x' xx _ => q v H' F' (xx.st o) rv x' o'
theorem sp_retN : PS X (.Return none pos) (tSS G mRetN) := PS.mono ps_retN fun D σ H h => by
  obtain ⟨r, H0, F0, F, W, τ, R, x, o, k, q⟩ := h
  exact q .non H F .refl (by simp only [Rep]) x o
theorem sp_pass : PS X (.Pass pos) (tSS G mNil) := PS.mono ps_pass fun D σ H h => by
  obtain ⟨r, H0, F0, F, W, τ, R, x, o, k, q⟩ := h
  exact q σ H F W .refl x o k
theorem sp_break : PS X (.Break pos) (tSS G mBrk) := PS.mono ps_break fun D σ H h => by
  obtain ⟨r, H0, F0, F, W, τ, R, x, o, k, q⟩ := h
  exact q σ H F W .refl x o k
theorem sp_continue : PS X (.Continue pos) (tSS G mCnt) := PS.mono ps_continue fun D σ H h => by
  obtain ⟨r, H0, F0, F, W, τ, R, x, o, k, q⟩ := h
  exact q σ H F W .refl x o k
theorem sp_stuck : PS X st (tSS G mStuck) := PS.mono ps_never fun D σ H h => by
  obtain ⟨r, H0, F0, F, W, τ, R, x, o, k, q⟩ := h
  exact q
theorem sp_expr (he : PE X e te) (hv : EvS G te ev) (hs : swapsWith e none pos.line X.env = pure false := by rfl) : PS X (.Expr e pos) (tSS G (mDrop ev)) := PS.mono (ps_expr he hs) fun D σ H h => by
  obtain ⟨r, H0, F0, F, W, τ, R, x, o, k, q⟩ := h
  unfold mDrop at q
  cases e1 : ev τ R with
  | none => rw [e1] at q; exact q.elim
  | some p =>
    rw [e1] at q
    exact hv r H0 F0 F W τ R p.1 p.2 σ H _ x o k e1 fun v H' F' rv o' x' xx k' => q σ H' F' W (xx.st o) x' o' k'
theorem sp_if (hc : PT X c tt) (hv : EvT G tt et) (ha : PSs X ba (tSS G m1)) (hb : PSs X bb (tSS G m2)) : PS X (.If c ba bb pos) (tSS G (mIfS et m1 m2)) := PS.mono (ps_if hc ha hb) fun D σ H h => by
  obtain ⟨r, H0, F0, F, W, τ, R, x, o, k, q⟩ := h
  unfold mIfS at q
  cases e1 : et τ R with
  | none => rw [e1] at q; exact q.elim
  | some p =>
    obtain ⟨b, R'⟩ := p
    rw [e1] at q
    refine hv r H0 F0 F W τ R b R' σ H _ x o k e1 fun H' F' o' x' z k' => ?_
    cases b with
    | true => exact ⟨r, H0, F0, F', W, τ, R', x', o', k', OutOk.st z q⟩
    | false => exact ⟨r, H0, F0, F', W, τ, R', x', o', k', OutOk.st z q⟩
end
/-! ### names stored -/
def setAll (σ : L2.St) (vs : List (Nat × V)) : L2.St := vs.foldl (fun σ p => σ.set p.1 (some p.2)) σ
def setAllD (τ : TauS) (us : List (Nat × D)) : TauS := us.foldl (fun τ p => τ.set p.1 (some (.val p.2))) τ
def RepU (G : Gx) (r : Option Addr) (F : Fz) (H : Hp) : List (Nat × D) → List (Nat × V) → Prop
  | [], vs => vs = []
  | (i, d) :: us, vs => ∃ v ws, vs = (i, v) :: ws ∧ Rep G r F H d v ∧ RepU G r F H us ws
section
variable {G : Gx} {r : Option Addr} {F F' : Fz} {H H' : Hp} {H0 : Ht} {R : Sr} {W : Nat → Addr → Prop} {σ : L2.St} {τ : TauS}
theorem HoldS.set (h : HoldS G r F H H0 W σ τ) (i : Nat) {d : D} {v : V} (q : Rep G r F H d v) : HoldS G r F H H0 W (σ.set i (some v)) (τ.set i (some (.val d))) where
  len := by rw [List.length_set, List.length_set]; exact h.len
  at_ := fun j s e => by
    by_cases hj : i = j
    · subst hj
      have hl : i < τ.length := by
        have := (List.getElem?_eq_some_iff.mp e).1
        rw [List.length_set] at this
        exact this
      rw [List.getElem?_set_self hl] at e
      cases e
      exact ⟨v, List.getElem?_set_self (by rw [h.len]; exact hl), q⟩
    · rw [List.getElem?_set_ne hj] at e ⊢
      exact h.at_ j s e
  sep := h.sep
  dis := h.dis
  me := fun j c ds e => by
    by_cases hj : i = j
    · subst hj
      have hl : i < τ.length := by
        have := (List.getElem?_eq_some_iff.mp e).1
        rw [List.length_set] at this
        exact this
      rw [List.getElem?_set_self hl] at e
      cases e
    · rw [List.getElem?_set_ne hj] at e ⊢
      exact h.me j c ds e
theorem HoldS.setAll : ∀ {us : List (Nat × D)} {vs : List (Nat × V)} {σ : L2.St} {τ : TauS}, HoldS G r F H H0 W σ τ → RepU G r F H us vs → HoldS G r F H H0 W (setAll σ vs) (setAllD τ us)
  | [], vs, σ, τ, h, q => by simp only [RepU] at q; subst q; exact h
  | (i, d) :: us, vs, σ, τ, h, q => by
    simp only [RepU] at q
    obtain ⟨v, ws, rfl, q1, q2⟩ := q
    show HoldS G r F H H0 W (Nb.setAll (σ.set i (some v)) ws) (setAllD (τ.set i (some (.val d))) us)
    exact HoldS.setAll (h.set i q1) q2
theorem RepU.append : ∀ {us us' : List (Nat × D)} {vs vs' : List (Nat × V)}, RepU G r F H us vs → RepU G r F H us' vs' → RepU G r F H (us ++ us') (vs ++ vs')
  | [], us', vs, vs', h, k => by simp only [RepU] at h; subst h; exact k
  | (i, d) :: us, us', vs, vs', h, k => by
    simp only [RepU] at h
    obtain ⟨v, ws, rfl, q1, q2⟩ := h
    simp only [List.cons_append, RepU]
    exact ⟨v, _, rfl, q1, RepU.append q2 k⟩
end
def tG (G : Gx) (g : D → Option (List (Nat × D))) : TG := fun v σ H Q => ∃ r F d us, Rep G r F H d v ∧ g d = some us ∧ ∀ vs, RepU G r F H us vs → Q (setAll σ vs) H
def tGs (G : Gx) (g : List D → Option (List (Nat × D))) : TGs := fun xs σ H Q => ∃ r F ds us, RepL G r F H ds xs ∧ g ds = some us ∧ ∀ vs, RepU G r F H us vs → Q (setAll σ vs) H
def gN (i : Nat) : D → Option (List (Nat × D)) := fun d => some [(i, d)]
def gT (n : Nat) (g : List D → Option (List (Nat × D))) : D → Option (List (Nat × D))
  | .tup ds => if ds.length = n then g ds else none
  | .lst ds => if ds.length = n then g ds else none
  | _ => none
def gs0 : List D → Option (List (Nat × D)) | [] => some [] | _ => none
def gsC (g : D → Option (List (Nat × D))) (gs : List D → Option (List (Nat × D))) : List D → Option (List (Nat × D))
  | d :: ds => (g d).bind fun a => (gs ds).map fun b => a ++ b
  | [] => none
section
variable {X : Cx} {G : Gx} {e : Expr} {es : List Expr} {pos : Pos}
theorem PG.mono {t t' : TG} (h : PG X e t) (k : ∀ v σ H Q, t' v σ H Q → t v σ H Q) : PG X e t' := ⟨fun pins s σ H v u Q I r q => h.run pins s σ H v u Q I r (k v σ H Q q)⟩
theorem PGs.mono {t t' : TGs} (h : PGs X es t) (k : ∀ v σ H Q, t' v σ H Q → t v σ H Q) : PGs X es t' := ⟨fun pins s σ H v u Q I r q => h.run pins s σ H v u Q I r (k v σ H Q q)⟩
theorem PG.or {t t' : TG} (h : PG X e t) (h' : PG X e t') : PG X e (fun v σ H Q => t v σ H Q ∨ t' v σ H Q) := ⟨fun pins s σ H v u Q I r q => q.elim (h.run pins s σ H v u Q I r) (h'.run pins s σ H v u Q I r)⟩
theorem sg_name {i : Nat} {x : Str} (hN : X.N.Nodup) (hi : X.N[i]? = some x) (hx : Loc X.env.scope x) (hf : X.fn x = true ∨ X.env.scope.names.lookup x = some .local := by first | exact .inl rfl | exact .inr rfl | assumption) : PG X (.Name x pos) (tG G (gN i)) :=
  PG.mono (pg_name hN hi hx hf) fun v σ H Q h => by
    obtain ⟨r, F, d, us, h1, h2, h3⟩ := h
    cases h2
    exact h3 [(i, v)] (by simp only [RepU]; exact ⟨v, [], rfl, h1, rfl⟩)
theorem sgs_nil : PGs X [] (tGs G gs0) := PGs.mono pgs_nil fun v σ H Q h => by
  obtain ⟨r, F, ds, us, h1, h2, h3⟩ := h
  cases ds with
  | cons _ _ => cases h2
  | nil =>
    cases h2
    simp only [RepL] at h1
    exact ⟨h1, h3 [] (by simp only [RepU])⟩
theorem setAll_app (σ : L2.St) (a b : List (Nat × V)) : setAll (setAll σ a) b = setAll σ (a ++ b) := by unfold setAll; rw [List.foldl_append]
theorem sgs_cons {g : D → Option (List (Nat × D))} {gs : List D → Option (List (Nat × D))} (h1 : PG X e (tG G g)) (h2 : PGs X es (tGs G gs)) (hs : (assignEach (e :: es) X.env).map (·.2) = assign e X.env :: (assignEach es X.env).map (·.2) := by rfl) : PGs X (e :: es) (tGs G (gsC g gs)) :=
  PGs.mono (pgs_cons h1 h2 hs) fun xs σ H Q h => by
    obtain ⟨r, F, ds, us, k1, k2, k3⟩ := h
    cases ds with
    | nil => cases k2
    | cons d ds =>
      simp only [RepL] at k1
      obtain ⟨w, ws, rfl, k4, k5⟩ := k1
      have k2 : ((g d).bind fun a => (gs ds).map fun b => a ++ b) = some us := k2
      cases ea : g d with
      | none => rw [ea] at k2; cases k2
      | some a =>
        cases eb : gs ds with
        | none => rw [ea, eb] at k2; cases k2
        | some b =>
          rw [ea, eb] at k2
          cases k2
          refine ⟨w, ws, rfl, r, F, d, a, k4, ea, fun vs q1 => ⟨r, F, ds, b, k5, eb, fun vs' q2 => ?_⟩⟩
          rw [setAll_app]
          exact k3 _ (q1.append q2)
theorem sg_tup {k n : Nat} {gs : List D → Option (List (Nat × D))} (hK : X.K = G.K) (hc : X.calm = true) (h : PGs X es (tGs G gs)) (hn : (assignEach es X.env).length = n := by rfl) (hst : (assignEach es X.env).findIdx? (·.1) = none := by rfl) : PG X (.Tuple es k pos) (tG G (gT n gs)) :=
  PG.mono (PG.or (pg_tup hc h hn hst) (pg_unl hc h hn hst)) fun v σ H Q q => by
    obtain ⟨r, F, d, us, k1, k2, k3⟩ := q
    unfold gT at k2
    split at k2
    · split at k2
      · simp only [Rep] at k1
        obtain ⟨a, vs, rfl, l, q1⟩ := k1
        exact .inl ⟨a, vs, rfl, by rw [hK]; exact l.sq, by rw [← q1.length]; assumption, r, F, _, us, q1, k2, k3⟩
      · cases k2
    · split at k2
      · simp only [Rep] at k1
        obtain ⟨a, vs, rfl, l, q1⟩ := k1
        exact .inr ⟨a, vs, rfl, l.sq, by rw [← q1.length]; assumption, r, F, _, us, q1, k2, k3⟩
      · cases k2
    · cases k2
end
def mSet (g : D → Option (List (Nat × D))) (ev : TauS → M D) : MS := fun τ R => match ev τ R with
  | some (d, R') => match g d with | some us => .nx (setAllD τ us) R' | none => .stuck
  | none => .stuck
section
variable {X : Cx} {G : Gx} {e tg : Expr} {te : TE} {ev : TauS → M D} {pos : Pos} {g : D → Option (List (Nat × D))}
theorem set_ok (hv : EvS G te ev) {D : Ends} {σ : L2.St} {H : Hp} (h : tSS G (mSet g ev) D σ H) : tAsg te (tG G g) D σ H := by
  obtain ⟨r, H0, F0, F, W, τ, R, x, o, k, q⟩ := h
  unfold mSet at q
  cases e1 : ev τ R with
  | none => rw [e1] at q; exact q.elim
  | some p =>
    rw [e1] at q
    dsimp only at q
    cases e2 : g p.1 with
    | none => rw [e2] at q; exact q.elim
    | some us =>
      rw [e2] at q
      refine hv r H0 F0 F W τ R p.1 p.2 σ H _ x o k e1 fun v H' F' rv o' x' xx k' => ⟨r, F', p.1, us, rv, e2, fun vs hu => ?_⟩
      exact q _ H' F' W (xx.st o) x' o' (k'.setAll hu)
theorem sp_asg (he : PE X e te) (hv : EvS G te ev) (hg : PG X tg (tG G g)) (hs : swapsWithSole [tg] e pos.line X.env = pure false := by rfl) (hw : swappedStores [tg] e X.env = pure none := by rfl)
    (h1 : (assignEach [tg] X.env).map (·.2) = [assign tg X.env] := by rfl) : PS X (.Assign [tg] e pos) (tSS G (mSet g ev)) := PS.mono (ps_asg he hg hs hw h1) fun D σ H h => set_ok hv h
theorem sp_set {i : Nat} {x : Str} {pos' : Pos} (he : PE X e te) (hv : EvS G te ev) (hN : X.N.Nodup) (hi : X.N[i]? = some x) (hx : Loc X.env.scope x) (hs : swapsWith e (some (.Name x pos')) pos.line X.env = pure false := by rfl)
    (hf : X.fn x = true ∨ X.env.scope.names.lookup x = some .local := by first | exact .inl rfl | exact .inr rfl | assumption) : PS X (.Assign [.Name x pos'] e pos) (tSS G (mSet (gN i) ev)) :=
  PS.mono (ps_set hN hi hx he hs hf) fun D σ H h => by
    obtain ⟨r, H0, F0, F, W, τ, R, x, o, k, q⟩ := h
    unfold mSet at q
    cases e1 : ev τ R with
    | none => rw [e1] at q; exact q.elim
    | some p =>
      rw [e1] at q
      exact hv r H0 F0 F W τ R p.1 p.2 σ H _ x o k e1 fun v H' F' rv o' x' xx k' => q _ H' F' W (xx.st o) x' o' (k'.set i rv)
end
end Nb
set_option Elab.async false
set_option linter.all false
set_option maxRecDepth 100000
namespace Nb
open PySem PySem.Spec PyProof.Rows L2
section
variable {G : Gx} {r : Option Addr} {F F0 : Fz} {H H' : Hp} {H0 : Ht} {R : Sr} {W : Nat → Addr → Prop} {σ : L2.St} {τ : TauS}
def setW (W : Nat → Addr → Prop) (i : Nat) (A : Addr → Prop) : Nat → Addr → Prop := fun j a => if j = i then A a else W j a
theorem setW_same {i : Nat} {A : Addr → Prop} : setW W i A i = A := by funext a; unfold setW; rw [if_pos rfl]
theorem setW_ne {i j : Nat} {A : Addr → Prop} (h : j ≠ i) : setW W i A j = W j := by funext a; unfold setW; rw [if_neg h]
theorem set_self {σ : L2.St} {i : Nat} {x : Option V} (h : σ[i]? = some x) : σ.set i x = σ := by
  apply List.ext_getElem?
  intro j
  by_cases e : i = j
  · subst e
    rw [List.getElem?_set_self (List.getElem?_eq_some_iff.mp h).1, h]
  · rw [List.getElem?_set_ne e]
/-- slot i becomes an object of the function's own, a new one or the one that it was, changed -/
theorem HoldS.change (h : HoldS G r F H H0 W σ τ) (o : Ok1 r F H R) (x : Ext r F0 H0 F H) {i : Nat} {A : Addr → Prop} {p : Addr} {ob : Own} (keep : ∀ a u, H a = some u → ¬ W i a → H' a = some u)
    (new : ∀ a, A a → (W i a ∨ H a = none) ∧ ∃ u, H' a = some u) (hob : ∀ c ds, ob = .obj c ds → H0.me = some p) (hp : A p) (ow : OwnAt G r F H' A p ob) :
    Ok1 r F H' R ∧ Ext r F0 H0 F H' ∧ HoldS G r F H' H0 (setW W i A) (σ.set i (some (.ref p))) (τ.set i (some (.own ob))) ∧ StF F H F H' := by
  have nW : ∀ a, F a → ¬ W i a := fun a f w => (h.sep i a w).1 f
  have nr : ∀ a, r = some a → ¬ W i a := fun a e w => (h.sep i a w).2.1 e
  have tr : ∀ a, A a → ¬ F a ∧ r ≠ some a ∧ H0 a = none := fun a k => by
    rcases (new a k).1 with w | n
    · exact ⟨(h.sep i a w).1, (h.sep i a w).2.1, (h.sep i a w).2.2.1⟩
    · refine ⟨fun f => ?_, fun e => ?_, ?_⟩
      · obtain ⟨u, q⟩ := o.fz a f; rw [n] at q; cases q
      · obtain ⟨u, q⟩ := o.srcIn e; rw [n] at q; cases q
      · cases q : H0 a with
        | none => rfl
        | some u =>
          by_cases e : r = some a
          · obtain ⟨u, q⟩ := o.srcIn e; rw [n] at q; cases q
          · rw [x.same a u q e] at n; cases n
  refine ⟨⟨fun a f => ?_, ?_⟩, ⟨x.mono, fun a u q e => ?_, x.new⟩, ⟨?_, fun j s e => ?_, fun j a w => ?_, fun j k a w1 w2 => ?_, fun j c ds e => ?_⟩, ⟨fun _ f => f, fun a f => .of fun u q => keep a u q (nW a f), fun a _ u f q => keep a _ q (nW a f)⟩⟩
  · obtain ⟨u, q⟩ := o.fz a f
    exact ⟨u, keep a u q (nW a f)⟩
  · have s := o.sr
    cases R with
    | none => exact s
    | some ns =>
      obtain ⟨b, e1, e2, e3⟩ := s
      exact ⟨b, e1, keep b _ e2 (nr b e1), e3⟩
  · exact keep a u (x.same a u q e) fun w => by rw [(h.sep i a w).2.2.1] at q; cases q
  · rw [List.length_set, List.length_set]; exact h.len
  · by_cases hj : i = j
    · subst hj
      have hl : i < τ.length := by
        have := (List.getElem?_eq_some_iff.mp e).1
        rw [List.length_set] at this
        exact this
      rw [List.getElem?_set_self hl] at e
      cases e
      refine ⟨.ref p, List.getElem?_set_self (by rw [h.len]; exact hl), p, rfl, ?_, ?_⟩
      · rw [setW_same]; exact hp
      · rw [setW_same]; exact ow
    · rw [List.getElem?_set_ne hj] at e ⊢
      obtain ⟨v, a, b⟩ := h.at_ j s e
      refine ⟨v, a, ?_⟩
      rw [setW_ne (Ne.symm hj)]
      have kp : ∀ a, F a → Kp H H' a := fun a f => .of fun u q => keep a u q (nW a f)
      cases s with
      | val d => exact Rep.mono (fun _ z => z) kp _ _ b
      | own ob' =>
        obtain ⟨p', rfl, hp', b⟩ := b
        exact ⟨p', rfl, hp', b.mono hp' (fun _ z => z) kp (fun a w u q => keep a u q fun z => hj (h.dis i j a z w)) fun _ z => z⟩
  · by_cases hj : j = i
    · subst hj
      rw [setW_same] at w
      obtain ⟨t1, t2, t3⟩ := tr a w
      exact ⟨t1, t2, t3, (new a w).2⟩
    · rw [setW_ne hj] at w
      obtain ⟨t1, t2, t3, u, t4⟩ := h.sep j a w
      exact ⟨t1, t2, t3, u, keep a u t4 fun z => hj (h.dis j i a w z)⟩
  · have one : ∀ j k a, setW W i A j a → setW W i A k a → k ≠ i → j = k := fun j' k' a' y1 y2 hk => by
      rw [setW_ne hk] at y2
      by_cases hj : j' = i
      · rw [hj, setW_same] at y1
        rw [hj]
        rcases (new a' y1).1 with w | n
        · exact h.dis _ _ a' w y2
        · obtain ⟨_, _, _, u, q⟩ := h.sep k' a' y2
          rw [n] at q; cases q
      · rw [setW_ne hj] at y1
        exact h.dis _ _ a' y1 y2
    by_cases hk : k = i
    · by_cases hj : j = i
      · rw [hj, hk]
      · exact (one k j a w2 w1 hj).symm
    · exact one j k a w1 w2 hk
  · by_cases hj : i = j
    · subst hj
      have hl : i < τ.length := by
        have := (List.getElem?_eq_some_iff.mp e).1
        rw [List.length_set] at this
        exact this
      rw [List.getElem?_set_self hl] at e
      cases e
      exact ⟨p, List.getElem?_set_self (by rw [h.len]; exact hl), hob c ds rfl⟩
    · rw [List.getElem?_set_ne hj] at e ⊢
      exact h.me j c ds e
/-- slot i is not changed any more -/
theorem HoldS.freeze (h : HoldS G r F H H0 W σ τ) (o : Ok1 r F H R) (x : Ext r F0 H0 F H) {i : Nat} {d : D} (hi : (Nb.viewB τ)[i]? = some (some d)) :
    ∃ F', Ok1 r F' H R ∧ Ext r F0 H0 F' H ∧ HoldS G r F' H H0 (setW W i fun _ => False) σ (τ.set i (some (.val d))) ∧ StF F H F' H := by
  refine ⟨fun a => F a ∨ W i a, ⟨fun a k => ?_, ?_⟩, ⟨fun a k => .inl (x.mono a k), x.same, fun a k => ?_⟩, ⟨?_, fun j s e => ?_, fun j a w => ?_, fun j k a w1 w2 => ?_, fun j c ds e => ?_⟩, ⟨fun a k => .inl k, fun a _ => .of fun _ z => z, fun _ _ _ _ h => h⟩⟩
  · rcases k with k | k
    · exact o.fz a k
    · exact (h.sep i a k).2.2.2
  · have s := o.sr
    cases R with
    | none => exact s
    | some ns =>
      obtain ⟨b, e1, e2, e3⟩ := s
      exact ⟨b, e1, e2, fun k => k.elim e3 fun w => (h.sep i b w).2.1 e1⟩
  · rcases k with k | k
    · exact x.new a k
    · exact .inr (h.sep i a k).2.2.1
  · rw [List.length_set]; exact h.len
  · have mo : ∀ a, F a → (F a ∨ W i a) := fun a k => .inl k
    have kp : ∀ a, F a → Kp H H a := fun a _ => .of fun _ z => z
    by_cases hj : i = j
    · subst hj
      have hl : i < τ.length := by
        have := (List.getElem?_eq_some_iff.mp e).1
        rw [List.length_set] at this
        exact this
      rw [List.getElem?_set_self hl] at e
      cases e
      unfold Nb.viewB at hi
      rw [List.getElem?_map] at hi
      cases e : τ[i]? with
      | none => rw [e] at hi; cases hi
      | some s =>
        rw [e] at hi
        cases s with
        | none => cases hi
        | some s =>
          obtain ⟨v, a, b⟩ := h.at_ i _ e
          refine ⟨v, a, ?_⟩
          cases s with
          | val d' => cases hi; exact Rep.mono mo kp _ _ b
          | own ob =>
            cases ob with
            | lst ds =>
              cases hi
              obtain ⟨p, rfl, hp, vs, b1, b2⟩ := b
              show Rep _ _ _ _ (.lst ds) _
              simp only [Rep]
              exact ⟨p, vs, rfl, ⟨.inr hp, b1⟩, RepL.mono mo kp _ _ b2⟩
            | dct ds =>
              cases hi
              obtain ⟨p, rfl, hp, vs, b1, b2⟩ := b
              show Rep _ _ _ _ (.dct ds) _
              simp only [Rep]
              exact ⟨p, vs, rfl, .inr hp, .of b1, RepK.mono mo kp _ _ b2⟩
            | dl kvs => cases hi
            | obj c ds => cases hi
    · rw [List.getElem?_set_ne hj] at e
      obtain ⟨v, a, b⟩ := h.at_ j s e
      refine ⟨v, a, ?_⟩
      rw [setW_ne (Ne.symm hj)]
      cases s with
      | val d => exact Rep.mono mo kp _ _ b
      | own ob' =>
        obtain ⟨p', rfl, hp', b⟩ := b
        exact ⟨p', rfl, hp', b.mono hp' mo kp (fun _ _ _ z => z) fun _ z => z⟩
  · by_cases hj : j = i
    · subst hj; rw [setW_same] at w; exact w.elim
    · rw [setW_ne hj] at w
      obtain ⟨t1, t2, t3, t4⟩ := h.sep j a w
      exact ⟨fun k => k.elim t1 fun z => hj (h.dis j i a w z), t2, t3, t4⟩
  · by_cases hj : j = i
    · subst hj; rw [setW_same] at w1; exact w1.elim
    · by_cases hk : k = i
      · subst hk; rw [setW_same] at w2; exact w2.elim
      · rw [setW_ne hj] at w1; rw [setW_ne hk] at w2; exact h.dis j k a w1 w2
  · by_cases hj : i = j
    · subst hj
      have hl : i < τ.length := by
        have := (List.getElem?_eq_some_iff.mp e).1
        rw [List.length_set] at this
        exact this
      rw [List.getElem?_set_self hl] at e
      cases e
    · rw [List.getElem?_set_ne hj] at e
      exact h.me j c ds e
end
def mFrz (i : Nat) (m : MS) : MS := fun τ R => match (viewB τ)[i]? with | some (some d) => m (τ.set i (some (.val d))) R | _ => .stuck
section
variable {X : Cx} {G : Gx} {e c : Expr} {te : TE} {tt : TT} {ev : TauS → M D} {st : Stmt} {rest : List Stmt} {m : MS} {pos pos' apos cpos : Pos} {x : Str} {i : Nat}
theorem frz_ok {D : Ends} {σ : L2.St} {H : Hp} (h : tSS G (mFrz i m) D σ H) : tSS G m D σ H := by
  obtain ⟨r, H0, F0, F, W, τ, R, x, o, k, q⟩ := h
  unfold mFrz at q
  split at q
  · rename_i d hd
    obtain ⟨F', o', x', k', z⟩ := k.freeze o x hd
    exact ⟨r, H0, F0, F', _, _, R, x', o', k', q.st z⟩
  · exact q.elim
theorem ss_frz (h : PSs X rest (tSS G m)) : PSs X rest (tSS G (mFrz i m)) := PSs.mono h fun D σ H q => frz_ok q
theorem sp_frz (h : PS X st (tSS G m)) : PS X st (tSS G (mFrz i m)) := PS.mono h fun D σ H q => frz_ok q
def mNew (i : Nat) (ev : TauS → M Own) : MS := fun τ R => match ev τ R with | some (ob, R') => .nx (τ.set i (some (.own ob))) R' | none => .stuck
/-! x.append(e), x.extend(e) -/
def mApp (i : Nat) (ev : TauS → M D) : MS := fun τ R => match ev τ R with
  | some (d, R') => match τ[i]? with | some (some (.own (.lst ds))) => if ds.length ≤ 16000000 then .nx (τ.set i (some (.own (.lst (ds ++ [d]))))) R' else .stuck | _ => .stuck
  | none => .stuck
def mExt (i : Nat) (ev : TauS → M D) : MS := fun τ R => match ev τ R with
  | some (.lst es, R') => match τ[i]? with | some (some (.own (.lst ds))) => if ds.length + es.length ≤ 16000000 then .nx (τ.set i (some (.own (.lst (ds ++ es))))) R' else .stuck | _ => .stuck
  | _ => .stuck
theorem own_write {r : Option Addr} {F F0 : Fz} {H : Hp} {H0 : Ht} {R : Sr} {W : Nat → Addr → Prop} {σ : L2.St} {τ : TauS} {p : Addr} {ho : HO} {ob : Own} (k : HoldS G r F H H0 W σ τ) (o : Ok1 r F H R) (x : Ext r F0 H0 F H) (hs : σ[i]? = some (some (.ref p))) (hob : ∀ c ds, ob = .obj c ds → H0.me = some p) (hp : W i p)
    (ow : OwnAt G r F (upd H p ho) (W i) p ob) : Ok1 r F (upd H p ho) R ∧ Ext r F0 H0 F (upd H p ho) ∧ HoldS G r F (upd H p ho) H0 (setW W i (W i)) σ (τ.set i (some (.own ob))) ∧ StF F H F (upd H p ho) := by
  have c := k.change (H' := upd H p ho) (i := i) (A := W i) (p := p) (ob := ob) o x (fun a u h n => by rw [upd_ne (fun z => n (by rw [z]; exact hp))]; exact h) (fun a h => ⟨.inl h, by
    by_cases e : a = p
    · exact ⟨ho, by rw [e]; exact upd_same⟩
    · obtain ⟨_, _, _, u, q⟩ := k.sep i a h
      exact ⟨u, by rw [upd_ne e]; exact q⟩⟩) hob hp ow
  rw [set_self hs] at c
  exact c
theorem repL_write {r : Option Addr} {F : Fz} {H : Hp} {H0 : Ht} {W : Nat → Addr → Prop} {σ : L2.St} {τ : TauS} {p : Addr} {ho : HO} (k : HoldS G r F H H0 W σ τ) (hp : W i p) {ds : List D} {vs : List V} (q : RepL G r F H ds vs) : RepL G r F (upd H p ho) ds vs :=
  RepL.mono (fun _ z => z) (fun a f => .of fun u h => by rw [upd_ne (fun z => (k.sep i p hp).1 (by rw [← z]; exact f))]; exact h) _ _ q
theorem repK_write {r : Option Addr} {F : Fz} {H : Hp} {H0 : Ht} {W : Nat → Addr → Prop} {σ : L2.St} {τ : TauS} {p : Addr} {ho : HO} (k : HoldS G r F H H0 W σ τ) (hp : W i p) {ds : List (Key × D)} {vs : List (Key × V)} (q : RepK G r F H ds vs) : RepK G r F (upd H p ho) ds vs :=
  RepK.mono (fun _ z => z) (fun a f => .of fun u h => by rw [upd_ne (fun z => (k.sep i p hp).1 (by rw [← z]; exact f))]; exact h) _ _ q
theorem rep_write {r : Option Addr} {F : Fz} {H : Hp} {H0 : Ht} {W : Nat → Addr → Prop} {σ : L2.St} {τ : TauS} {p : Addr} {ho : HO} (k : HoldS G r F H H0 W σ τ) (hp : W i p) {d : D} {v : V} (q : Rep G r F H d v) : Rep G r F (upd H p ho) d v :=
  Rep.mono (fun _ z => z) (fun a f => .of fun u h => by rw [upd_ne (fun z => (k.sep i p hp).1 (by rw [← z]; exact f))]; exact h) _ _ q
theorem small_line {n : Nat} (h : n ≤ 16000000) : n < sizeLine := by rw [sizeLine_eq]; omega
theorem sp_append {o : Expr} (ho : PE X o (tVar i)) (he : PE X e te) (hv : EvS G te ev)
    (hbase : attributeBase o "append" X.env (eval o X.env) = eval o X.env := by rfl)
    (hfew : ((backTo cpos (starEach [e] X.env)).all (fun x => !x.1) && (backToKw cpos (keywordEach [] X.env)).all (fun x => x.1.isSome)
      && decide (([e] : List Expr).length + ([] : List Keyword).length + (if ([] : List Keyword).isEmpty then 0 else 1) < 30)) = true := by rfl)
    (hline : (apos.endLine == cpos.line) = true := by rfl) (hs : starEach [e] X.env = (false, eval e X.env) :: starEach [] X.env := by rfl) (hplain : (backTo cpos (starEach [] X.env)).any (·.1) = false := by rfl)
    (hsw : swapsWith (.Call (.Attribute o "append" apos) [e] [] cpos) none pos.line X.env = pure false := by rfl) :
    PS X (.Expr (.Call (.Attribute o "append" apos) [e] [] cpos) pos) (tSS G (mApp i ev)) :=
  PS.mono (ps_expr (pe_bm PySem.F.plainAttrs_list PySem.F.slot_list_append PySem.F.type_list_append mt_append ho (pa_cons he pa_nil hs) hbase hfew hline hs hplain) hsw) fun D σ H h => by
    obtain ⟨r, H0, F0, F, W, τ, R, x, o, k, q⟩ := h
    unfold mApp at q
    cases e1 : ev τ R with
    | none => rw [e1] at q; exact q.elim
    | some y =>
      rw [e1] at q
      dsimp only at q
      split at q
      · rename_i ds hi
        split at q
        · rename_i hl
          obtain ⟨v, hs, p, rfl, hp, vs, h1, h2⟩ := k.at_ i _ hi
          refine ⟨.ref p, hs, .inl ⟨rfl, vs, SqL.of h1⟩, ?_⟩
          refine hv r H0 F0 F W τ R y.1 y.2 σ H _ x o k e1 fun v' H' F' rv o' x' xx k' => ?_
          obtain ⟨_, hs', p', e', hp', vs', h1', h2'⟩ := k'.at_ i _ hi
          rw [hs] at hs'
          cases hs'
          cases e'
          refine ⟨p, vs', v', rfl, rfl, h1', by rw [← h2'.length]; exact small_line hl, ?_⟩
          obtain ⟨o2, x2, k2, z2⟩ := own_write (ho := .lst (vs' ++ [v'])) (ob := .lst (ds ++ [y.1])) k' o' x' hs (fun _ _ z => nomatch z) hp' ⟨_, upd_same, (repL_write k' hp' h2').append (RepL.one (rep_write k' hp' rv))⟩
          exact q σ _ F' _ ((xx.st o).trans z2) x2 o2 k2
        · exact q.elim
      · exact q.elim
theorem sp_extend {o : Expr} (ho : PE X o (tVar i)) (he : PE X e te) (hv : EvS G te ev)
    (hbase : attributeBase o "extend" X.env (eval o X.env) = eval o X.env := by rfl)
    (hfew : ((backTo cpos (starEach [e] X.env)).all (fun x => !x.1) && (backToKw cpos (keywordEach [] X.env)).all (fun x => x.1.isSome)
      && decide (([e] : List Expr).length + ([] : List Keyword).length + (if ([] : List Keyword).isEmpty then 0 else 1) < 30)) = true := by rfl)
    (hline : (apos.endLine == cpos.line) = true := by rfl) (hs : starEach [e] X.env = (false, eval e X.env) :: starEach [] X.env := by rfl) (hplain : (backTo cpos (starEach [] X.env)).any (·.1) = false := by rfl)
    (hsw : swapsWith (.Call (.Attribute o "extend" apos) [e] [] cpos) none pos.line X.env = pure false := by rfl) :
    PS X (.Expr (.Call (.Attribute o "extend" apos) [e] [] cpos) pos) (tSS G (mExt i ev)) :=
  PS.mono (ps_expr (pe_bm PySem.F.plainAttrs_list PySem.F.slot_list_extend PySem.F.type_list_extend mt_extend ho (pa_cons he pa_nil hs) hbase hfew hline hs hplain) hsw) fun D σ H h => by
    obtain ⟨r, H0, F0, F, W, τ, R, x, o, k, q⟩ := h
    unfold mExt at q
    split at q
    · rename_i es R' e1
      split at q
      · rename_i ds hi
        split at q
        · rename_i hl
          obtain ⟨v, hs, p, rfl, hp, vs, h1, h2⟩ := k.at_ i _ hi
          refine ⟨.ref p, hs, .inl ⟨rfl, vs, SqL.of h1⟩, ?_⟩
          refine hv r H0 F0 F W τ R _ R' σ H _ x o k e1 fun v' H' F' rv o' x' xx k' => ?_
          obtain ⟨_, hs', p', e', hp', vs', h1', h2'⟩ := k'.at_ i _ hi
          rw [hs] at hs'
          cases hs'
          cases e'
          simp only [Rep] at rv
          obtain ⟨b, ws, rfl, l, h3⟩ := rv
          refine ⟨p, b, vs', ws, rfl, rfl, h1', l.2, by rw [← h2'.length, ← h3.length]; exact Nat.le_of_lt (small_line hl), ?_⟩
          obtain ⟨o2, x2, k2, z2⟩ := own_write (ho := .lst (vs' ++ ws)) (ob := .lst (ds ++ es)) k' o' x' hs (fun _ _ z => nomatch z) hp' ⟨_, upd_same, (repL_write k' hp' h2').append (repL_write k' hp' h3)⟩
          exact q σ _ F' _ ((xx.st o).trans z2) x2 o2 k2
        · exact q.elim
      · exact q.elim
    · exact q.elim
/-! x[k] = v of an own dict -/
def mPut (i : Nat) (ek ev : TauS → M D) : MS := fun τ R => match ev τ R with
  | some (d, R1) => match ek τ R1 with
    | some (kd, R') => match keyD kd, τ[i]? with
      | some k, some (some (.own (.dct kvs))) => if kvs.length ≤ 16000000 then .nx (τ.set i (some (.own (.dct (putD kvs k d))))) R' else .stuck
      | _, _ => .stuck
    | none => .stuck
  | none => .stuck
theorem sp_dput {o kx : Expr} {tk : TE} {ek : TauS → M D} (hu : X.A.units + 64 < cLine) (ho : PE X o (tVar i)) (hk : PE X kx tk) (hkv : EvS G tk ek) (he : PE X e te) (hv : EvS G te ev) (hs : swapsWith e (some (.Subscript o kx pos')) pos.line X.env = pure false := by rfl) :
    PS X (.Assign [.Subscript o kx pos'] e pos) (tSS G (mPut i ek ev)) :=
  PS.mono (ps_dput (by omega) ho hk he hs) fun D σ H h => by
    obtain ⟨r, H0, F0, F, W, τ, R, x, o, k, q⟩ := h
    unfold mPut at q
    cases e1 : ev τ R with
    | none => rw [e1] at q; exact q.elim
    | some y =>
      rw [e1] at q
      dsimp only at q
      cases e2 : ek τ y.2 with
      | none => rw [e2] at q; exact q.elim
      | some z =>
        rw [e2] at q
        dsimp only at q
        split at q
        · rename_i key kvs hkey hi
          split at q
          · rename_i hl
            refine hv r H0 F0 F W τ R y.1 y.2 σ H _ x o k e1 fun v1 H1 F1 rv1 o1 x1 xx1 k1 => ?_
            obtain ⟨_, hs, p, rfl, hp, ws, h1, h2⟩ := k1.at_ i _ hi
            refine ⟨.ref p, hs, ?_⟩
            refine hkv r H0 F0 F1 W τ y.2 z.1 z.2 σ H1 _ x1 o1 k1 e2 fun v2 H2 F2 rv2 o2 x2 xx2 k2 => ?_
            obtain ⟨_, hs', p', e', hp', ws', h1', h2'⟩ := k2.at_ i _ hi
            rw [hs] at hs'
            cases hs'
            cases e'
            refine ⟨p, _, rfl, .inl ⟨ws', key, h1', rv2.key hkey, by rw [← h2'.length]; exact small_line hl, rfl⟩, ?_⟩
            obtain ⟨o3, x3, k3, z3⟩ := own_write (ho := .dK (putK ws' key v1)) (ob := .dct (putD kvs key y.1)) k2 o2 x2 hs (fun _ _ z => nomatch z) hp' ⟨_, upd_same, (repK_write k2 hp' h2').put key (rep_write k2 hp' (xx2.rep o1 rv1))⟩
            exact q σ _ F2 _ (((xx1.st o).trans (xx2.st o1)).trans z3) x3 o3 k3
          · exact q.elim
        · exact q.elim
end
end Nb
set_option Elab.async false
set_option linter.all false
set_option maxRecDepth 100000
namespace Nb
open PySem PySem.Spec PyProof.Rows L2 RZ
/-! ### what loops go through -/
def WalksI (G : Gx) (r : Option Addr) (F1 : Fz) (H1 : Hp) (J : It) (ds : List D) : Prop := ∀ F' H' R', StF F1 H1 F' H' → Ok1 r F' H' R' → ∀ i,
  (i < ds.length → J.go i H') ∧ (ds.length ≤ i → J.stop i H') ∧ ∀ x H'', J.yld i H' x H'' → ∀ d, ds[i]? = some d → ∃ F'', Rep G r F'' H'' d x ∧ Ok1 r F'' H'' R' ∧ Ext r F' H' F'' H''
def tI (G : Gx) (m : Tau → M (List D)) : TI := fun σ H Q => ∃ r F τ R ds R', HoldT G r F H σ τ ∧ Ok1 r F H R ∧ m τ R = some (ds, R') ∧ ∀ J H' F', WalksI G r F' H' J ds → Ok1 r F' H' R' → Ext r F H F' H' → Q J H'
section
variable {G : Gx} {r : Option Addr} {F F1 : Fz} {H H1 : Hp} {R : Sr}
theorem walks_list {a : Addr} {vs : List V} {ds : List D} (l : LstAt F H a vs) (q : RepL G r F H ds vs) : WalksI G r F H (Itl G.K a) ds := fun F' H' R' st o i => by
  have l' := l.mono st.1 st.2.1
  have q' := st.repL q
  refine ⟨fun hi => ?_, fun hi => ?_, fun x H'' y d hd => ?_⟩
  · obtain ⟨v, e, _⟩ := q'.get (List.getElem?_eq_getElem hi)
    exact ⟨vs, v, l'.sq, e⟩
  · exact ⟨vs, l'.sq, by rw [← q'.length]; exact hi⟩
  · obtain ⟨rfl, y⟩ := y
    obtain ⟨v, e, rv⟩ := q'.get hd
    have e2 := y vs l'.sq
    rw [e] at e2
    cases e2
    exact ⟨F', rv, o, .refl⟩
theorem walks_tup {a : Addr} {vs : List V} {ds : List D} (l : TupAt G.K F H a vs) (q : RepL G r F H ds vs) : WalksI G r F H (Itt G.K a) ds := fun F' H' R' st o i => by
  have l' := l.mono st.1 st.2.1
  have q' := st.repL q
  refine ⟨fun hi => ?_, fun hi => ?_, fun x H'' y d hd => ?_⟩
  · obtain ⟨v, e, _⟩ := q'.get (List.getElem?_eq_getElem hi)
    exact ⟨vs, v, l'.sq, e⟩
  · exact ⟨vs, l'.sq, by rw [← q'.length]; exact hi⟩
  · obtain ⟨rfl, y⟩ := y
    obtain ⟨v, e, rv⟩ := q'.get hd
    have e2 := y vs l'.sq
    rw [e] at e2
    cases e2
    exact ⟨F', rv, o, .refl⟩
theorem walks_scr {a : Addr} {ns : List Int} (l : ScrAt G.K F H a (ns.map V.int)) : WalksI G r F H (Itl G.K a) (ns.map D.int) := fun F' H' R' st o i => by
  have l' : SqL G.K H' a (ns.map V.int) := (l.imp (fun ⟨f, l⟩ => (st.2.1 a f).1 _ (fun _ _ z => nomatch z) l) id : _ ∨ _)
  refine ⟨fun hi => ?_, fun hi => ?_, fun x H'' y d hd => ?_⟩
  · rw [List.length_map] at hi
    exact ⟨_, _, l', List.getElem?_eq_getElem (by rw [List.length_map]; exact hi)⟩
  · rw [List.length_map] at hi
    exact ⟨_, l', by rw [List.length_map]; exact hi⟩
  · obtain ⟨rfl, y⟩ := y
    have e2 := y _ l'
    rw [List.getElem?_map] at hd e2
    cases e : ns[i]? with
    | none => rw [e] at hd; cases hd
    | some n =>
      rw [e] at hd e2
      cases hd; cases e2
      exact ⟨F', by simp only [Rep], o, .refl⟩
def rngD (lo : Int) (n : Nat) : List D := (List.range n).map fun k : Nat => .int (lo + (k : Int))
theorem walks_rng {lo : Int} {n : Nat} : WalksI G r F H (Itr lo n) (rngD lo n) := fun F' H' R' st o i => by
  unfold rngD
  refine ⟨fun hi => ?_, fun hi => ?_, fun x H'' y d hd => ?_⟩
  · rw [List.length_map, List.length_range] at hi; exact hi
  · rw [List.length_map, List.length_range] at hi; exact hi
  · obtain ⟨rfl, rfl⟩ := y
    rw [List.getElem?_map] at hd
    by_cases hi : i < n
    · rw [List.getElem?_range hi] at hd
      cases hd
      exact ⟨F', by simp only [Rep], o, .refl⟩
    · rw [List.getElem?_eq_none (by rw [List.length_range]; omega)] at hd
      cases hd
def enumD (ds : List D) : List D := ds.mapIdx fun i d => .tup [.int (i : Nat), d]
theorem walks_enum {a : Addr} {vs : List V} {ds : List D} (l : LstAt F H a vs) (q : RepL G r F H ds vs) : WalksI G r F H (Ite G.K a) (enumD ds) := fun F' H' R' st o i => by
  have l' := l.mono st.1 st.2.1
  have q' := st.repL q
  unfold enumD
  refine ⟨fun hi => ?_, fun hi => ?_, fun x H'' y d hd => ?_⟩
  · rw [List.length_mapIdx] at hi
    obtain ⟨v, e, _⟩ := q'.get (List.getElem?_eq_getElem hi)
    exact ⟨vs, v, l'.sq, e⟩
  · rw [List.length_mapIdx] at hi
    exact ⟨vs, l'.sq, by rw [← q'.length]; exact hi⟩
  · obtain ⟨T, x', rfl, hT, rfl, y⟩ := y
    rw [List.getElem?_mapIdx] at hd
    cases e0 : ds[i]? with
    | none => rw [e0] at hd; cases hd
    | some d0 =>
      rw [e0] at hd; cases hd
      obtain ⟨v, e, rv⟩ := q'.get e0
      have e2 := y vs l'.sq
      rw [e] at e2
      cases e2
      have q2 : RepL G r F' H' [.int (i : Nat), d0] [.int (i : Nat), x'] := by
        simp only [RepL, Rep]
        exact ⟨_, _, rfl, rfl, _, _, rfl, rv, rfl⟩
      exact ⟨_, rep_tup o hT q2, (new_frozen o hT).1, (new_frozen o hT).2⟩
def zipD (as bs : List D) : List D := (as.zip bs).map fun p => .tup [p.1, p.2]
theorem zip_get {as bs : List D} {i : Nat} {d : D} (h : (zipD as bs)[i]? = some d) : ∃ a b, as[i]? = some a ∧ bs[i]? = some b ∧ d = .tup [a, b] := by
  unfold zipD at h
  rw [List.getElem?_map] at h
  cases e : (as.zip bs)[i]? with
  | none => rw [e] at h; cases h
  | some p =>
    rw [e] at h; cases h
    obtain ⟨h1, h2⟩ := List.getElem?_zip_eq_some.mp e
    exact ⟨_, _, h1, h2, rfl⟩
theorem walks_zipL {a b : Addr} {vs ws : List V} {ds es : List D} (l : LstAt F H a vs) (q : RepL G r F H ds vs) (l2 : LstAt F H b ws) (q2 : RepL G r F H es ws) : WalksI G r F H (Itz G.K a b) (zipD ds es) := fun F' H' R' st o i => by
  have l' := l.mono st.1 st.2.1
  have q' := st.repL q
  have l2' := l2.mono st.1 st.2.1
  have q2' := st.repL q2
  have hl : (zipD ds es).length = min ds.length es.length := by unfold zipD; rw [List.length_map, List.length_zip]
  refine ⟨fun hi => ?_, fun hi => ?_, fun x H'' y d hd => ?_⟩
  · rw [hl] at hi
    obtain ⟨v, e, _⟩ := q'.get (List.getElem?_eq_getElem (show i < ds.length by omega))
    obtain ⟨v2, e2, _⟩ := q2'.get (List.getElem?_eq_getElem (show i < es.length by omega))
    exact ⟨vs, ws, v, v2, l'.sq, l2'.sq, e, e2⟩
  · rw [hl] at hi
    exact ⟨vs, ws, l'.sq, l2'.sq, by rw [← q'.length, ← q2'.length]; omega⟩
  · obtain ⟨T, x1, x2, rfl, hT, rfl, y1, y2⟩ := y
    obtain ⟨d1, d2, e1, e2, rfl⟩ := zip_get hd
    obtain ⟨v1, f1, r1⟩ := q'.get e1
    obtain ⟨v2, f2, r2⟩ := q2'.get e2
    have g1 := y1 vs l'.sq
    have g2 := y2 ws l2'.sq
    rw [f1] at g1
    rw [f2] at g2
    cases g1; cases g2
    have q3 : RepL G r F' H' [d1, d2] [x1, x2] := by
      simp only [RepL]
      exact ⟨_, _, rfl, r1, _, _, rfl, r2, rfl⟩
    exact ⟨_, rep_tup o hT q3, (new_frozen o hT).1, (new_frozen o hT).2⟩
theorem walks_zipT {a b : Addr} {vs ws : List V} {ds es : List D} (l : TupAt G.K F H a vs) (q : RepL G r F H ds vs) (l2 : TupAt G.K F H b ws) (q2 : RepL G r F H es ws) : WalksI G r F H (ItzT G.K a b) (zipD ds es) := fun F' H' R' st o i => by
  have l' := l.mono st.1 st.2.1
  have q' := st.repL q
  have l2' := l2.mono st.1 st.2.1
  have q2' := st.repL q2
  have hl : (zipD ds es).length = min ds.length es.length := by unfold zipD; rw [List.length_map, List.length_zip]
  refine ⟨fun hi => ?_, fun hi => ?_, fun x H'' y d hd => ?_⟩
  · rw [hl] at hi
    obtain ⟨v, e, _⟩ := q'.get (List.getElem?_eq_getElem (show i < ds.length by omega))
    obtain ⟨v2, e2, _⟩ := q2'.get (List.getElem?_eq_getElem (show i < es.length by omega))
    exact ⟨vs, ws, v, v2, l'.sq, l2'.sq, e, e2⟩
  · rw [hl] at hi
    exact ⟨vs, ws, l'.sq, l2'.sq, by rw [← q'.length, ← q2'.length]; omega⟩
  · obtain ⟨T, x1, x2, rfl, hT, rfl, y1, y2⟩ := y
    obtain ⟨d1, d2, e1, e2, rfl⟩ := zip_get hd
    obtain ⟨v1, f1, r1⟩ := q'.get e1
    obtain ⟨v2, f2, r2⟩ := q2'.get e2
    have g1 := y1 vs l'.sq
    have g2 := y2 ws l2'.sq
    rw [f1] at g1
    rw [f2] at g2
    cases g1; cases g2
    have q3 : RepL G r F' H' [d1, d2] [x1, x2] := by
      simp only [RepL]
      exact ⟨_, _, rfl, r1, _, _, rfl, r2, rfl⟩
    exact ⟨_, rep_tup o hT q3, (new_frozen o hT).1, (new_frozen o hT).2⟩
def keysD (kvs : List (Key × D)) : List D := kvs.map fun kv => match kv.1 with | .inl i => .int i | .inr s => .str s
theorem rep_kV {k : Key} {d : D} (h : d = match k with | .inl i => D.int i | .inr s => D.str s) : Rep G r F H d (kV k) := by
  subst h
  cases k <;> simp only [Rep, kV]
/-- the keys of a dict that is locked -/
theorem walks_keys {d : Addr} {o : Obj} {kvs : List (Key × D)} {ws : List (Key × V)} (hl : H d = some (.frz o (.dK ws))) (hk : ∀ F' H', StF F H F' H' → H' d = some (.frz o (.dK ws))) (q : RepK G r F H kvs ws) : WalksI G r F H (Itk d o ws) (keysD kvs) := fun F' H' R' st ok i => by
  have l' := hk F' H' st
  have e0 : (keysD kvs).length = ws.length := by unfold keysD; rw [List.length_map, q.length]
  refine ⟨fun hi => ⟨l', by rw [← e0]; exact hi⟩, fun hi => ⟨l', by rw [← e0]; exact hi⟩, fun x H'' y d hd => ?_⟩
  obtain ⟨rfl, k, v, h1, rfl⟩ := y
  refine ⟨F', ?_, ok, .refl⟩
  unfold keysD at hd
  rw [List.getElem?_map] at hd
  have e1 : (kvs.map (·.1))[i]? = (ws.map (·.1))[i]? := by rw [q.keys]
  rw [List.getElem?_map, List.getElem?_map, h1] at e1
  cases e : kvs[i]? with
  | none => rw [e] at hd; cases hd
  | some p =>
    rw [e] at hd e1
    cases hd
    have e2 : p.1 = k := Option.some.inj e1
    exact rep_kV (by subst e2; rfl)
end
section
variable {X : Cx} {G : Gx} {a b c e o tg iter : Expr} {es elts : List Expr} {ma mb : ME} {ms : Tau → M (List D)} {p pos tpos : Pos} {kk : Nat}
theorem PI.mono {t t' : TI} (h : PI X tg iter t) (k : ∀ σ H Q, t' σ H Q → t σ H Q) : PI X tg iter t' := ⟨fun pins s σ H Q I q => h.run pins s σ H Q I (k σ H Q q)⟩
theorem PI.or {t t' : TI} (h : PI X tg iter t) (h' : PI X tg iter t') : PI X tg iter (fun σ H Q => t σ H Q ∨ t' σ H Q) := ⟨fun pins s σ H Q I q => q.elim (h.run pins s σ H Q I) (h'.run pins s σ H Q I)⟩
def seqD : D → Option (List D) | .lst ds => some ds | .tup ds => some ds | .scr ns => some (ns.map .int) | _ => none
def mSeqI (ma : ME) : Tau → M (List D) := fun τ => do let x ← ma τ; opt (seqD x)
theorem si_seq (hK : X.K = G.K) (he : PE X e (tE G ma)) : PI X tg e (tI G (mSeqI ma)) := PI.mono (PI.or (pi_list he) (pi_tup he)) fun σ H Q h => by
  rw [hK]
  obtain ⟨r, F, τ, R, ds, R', ht, ho, e, q⟩ := h
  obtain ⟨x, R1, e1, e2⟩ := M.bind_some e
  obtain ⟨e3, rfl⟩ := opt_some e2
  unfold seqD at e3
  split at e3
  · cases e3
    refine .inl ⟨r, F, τ, R, _, _, ht, ho, e1, fun u H1 F1 ru o1 x1 => ?_⟩
    simp only [Rep] at ru
    obtain ⟨n, vs, rfl, l, q1⟩ := ru
    exact ⟨n, rfl, ⟨vs, l.sq⟩, q _ H1 F1 (walks_list l q1) o1 x1⟩
  · cases e3
    refine .inr ⟨r, F, τ, R, _, _, ht, ho, e1, fun u H1 F1 ru o1 x1 => ?_⟩
    simp only [Rep] at ru
    obtain ⟨n, vs, rfl, l, q1⟩ := ru
    exact ⟨n, rfl, ⟨vs, l.sq⟩, q _ H1 F1 (walks_tup l q1) o1 x1⟩
  · cases e3
    refine .inl ⟨r, F, τ, R, _, _, ht, ho, e1, fun u H1 F1 ru o1 x1 => ?_⟩
    simp only [Rep] at ru
    obtain ⟨n, rfl, l⟩ := ru
    exact ⟨n, rfl, ⟨_, l.sq⟩, q _ H1 F1 (walks_scr l) o1 x1⟩
  · cases e3
def rngF1 : List D → Option (List D)
  | [.int j] => if -(2 ^ 62) ≤ j ∧ j < 2 ^ 62 then some (rngD 0 j.toNat) else none
  | _ => none
def rngF2 : List D → Option (List D)
  | [.int i, .int j] => if -(2 ^ 62) ≤ i ∧ i < 2 ^ 62 ∧ -(2 ^ 62) ≤ j ∧ j < 2 ^ 62 then some (rngD i (j - i).toNat) else none
  | _ => none
def enumF : List D → Option (List D) | [.lst ds] => some (enumD ds) | _ => none
def zipF : List D → Option (List D) | [.lst ds, .lst es] => some (zipD ds es) | [.tup ds, .tup es] => some (zipD ds es) | _ => none
def mFunI (f : List D → Option (List D)) (ms : Tau → M (List D)) : Tau → M (List D) := fun τ => do let xs ← ms τ; opt (f xs)
theorem tAI {f : List D → Option (List D)} {σ : L2.St} {H : Hp} {Q : It → Hp → Prop} (h : tI G (mFunI f ms) σ H Q) {P : List V → Hp → Prop}
    (hk : ∀ r F R xs us H1 ds, Ok1 r F H1 R → RepL G r F H1 xs us → f xs = some ds → (∀ J H' F', WalksI G r F' H' J ds → Ok1 r F' H' R → Ext r F H1 F' H' → Q J H') → P us H1) : tA G ms σ H P := by
  obtain ⟨r, F, τ, R, ds, R', ht, ho, e, q⟩ := h
  obtain ⟨x, R1, e1, e2⟩ := M.bind_some e
  obtain ⟨e3, rfl⟩ := opt_some e2
  exact ⟨r, F, τ, R, x, _, ht, ho, e1, fun us H1 F1 ru o1 x1 => hk r F1 _ x us H1 ds o1 ru e3 fun J H' F' w o' x' => q J H' F' w o' (x1.trans o1 x')⟩
theorem si_range1 (hm : X.mg "range" = none) (ha : PA X [a] (tA G ms)) (hg : Gl X "range" := by rfl) (hs : starEach [a] X.env = [(false, eval a X.env)] := by rfl) : PI X tg (.Call (.Name "range" p) [a] [] pos) (tI G (mFunI rngF1 ms)) :=
  PI.mono (pi_range1 hg hm ha hs) fun σ H Q h => tAI h fun r F R xs us H1 ds o ru e q => by
    unfold rngF1 at e
    split at e
    · split at e
      · rename_i j hj
        cases e
        obtain ⟨v, rfl, r1⟩ := ru.single
        simp only [Rep] at r1
        subst r1
        exact ⟨j, rfl, hj.1, hj.2, q _ H1 F walks_rng o .refl⟩
      · cases e
    · cases e
theorem si_range2 (hm : X.mg "range" = none) (ha : PA X [a, b] (tA G ms)) (hg : Gl X "range" := by rfl) (hs : starEach [a, b] X.env = [(false, eval a X.env), (false, eval b X.env)] := by rfl) (hs2 : starEach [b] X.env = [(false, eval b X.env)] := by rfl) : PI X tg (.Call (.Name "range" p) [a, b] [] pos) (tI G (mFunI rngF2 ms)) :=
  PI.mono (pi_range2 hg hm ha hs hs2) fun σ H Q h => tAI h fun r F R xs us H1 ds o ru e q => by
    unfold rngF2 at e
    split at e
    · split at e
      · rename_i i j hj
        cases e
        obtain ⟨v, v', rfl, r1, r2⟩ := ru.pair
        simp only [Rep] at r1 r2
        subst r1; subst r2
        exact ⟨i, j, rfl, hj, q _ H1 F walks_rng o .refl⟩
      · cases e
    · cases e
theorem si_enum (hK : X.K = G.K) (hm : X.mg "enumerate" = none) (ha : PA X [e] (tA G ms)) (hg : Gl X "enumerate" := by rfl) (hs : starEach [e] X.env = [(false, eval e X.env)] := by rfl) : PI X (.Tuple elts kk tpos) (.Call (.Name "enumerate" p) [e] [] pos) (tI G (mFunI enumF ms)) :=
  PI.mono (pi_enum hg hm ha hs) fun σ H Q h => tAI h fun r F R xs us H1 ds o ru e q => by
    unfold enumF at e
    split at e
    · cases e
      obtain ⟨v, rfl, r1⟩ := ru.single
      simp only [Rep] at r1
      obtain ⟨n, vs, rfl, l, q1⟩ := r1
      exact ⟨n, vs, rfl, l.sq, by rw [hK]; exact q _ H1 F (walks_enum l q1) o .refl⟩
    · cases e
theorem si_zip (hK : X.K = G.K) (hm : X.mg "zip" = none) (ha : PA X [a, b] (tA G ms)) (hg : Gl X "zip" := by rfl) (hs : starEach [a, b] X.env = (false, eval a X.env) :: starEach [b] X.env := by rfl) (hpl : (backTo pos (starEach [b] X.env)).any (·.1) = false := by rfl) : PI X (.Tuple elts kk tpos) (.Call (.Name "zip" p) [a, b] [] pos) (tI G (mFunI zipF ms)) :=
  PI.mono (pi_zipA hg hm ha hs hpl) fun σ H Q h => tAI h fun r F R xs us H1 ds o ru e q => by
    unfold zipF at e
    rw [hK]
    split at e
    · cases e
      obtain ⟨v, v', rfl, r1, r2⟩ := ru.pair
      simp only [Rep] at r1 r2
      obtain ⟨n, vs, rfl, l, q1⟩ := r1
      obtain ⟨n2, ws, rfl, l2, q2⟩ := r2
      exact ⟨n, n2, vs, ws, rfl, .inl ⟨l.sq, l2.sq, q _ H1 F (walks_zipL l q1 l2 q2) o .refl⟩⟩
    · cases e
      obtain ⟨v, v', rfl, r1, r2⟩ := ru.pair
      simp only [Rep] at r1 r2
      obtain ⟨n, vs, rfl, l, q1⟩ := r1
      obtain ⟨n2, ws, rfl, l2, q2⟩ := r2
      exact ⟨n, n2, vs, ws, rfl, .inr ⟨l.sq, l2.sq, q _ H1 F (walks_zipT l q1 l2 q2) o .refl⟩⟩
    · cases e
end
end Nb
set_option Elab.async false
set_option linter.all false
set_option maxRecDepth 100000
namespace Nb
open PySem PySem.Spec PyProof.Rows L2 RZ
/-! ### expressions that give a new object, not yet shared -/
def ownD : Own → Option D | .lst ds => some (.lst ds) | .dct kvs => some (.dct kvs) | _ => none
def tW (G : Gx) (m : Tau → M Own) : TE := fun σ H Q => ∃ r F τ R ob R', HoldT G r F H σ τ ∧ Ok1 r F H R ∧ m τ R = some (ob, R') ∧ ∀ p H' F', H p = none → ¬ F' p → OwnAt G r F' H' (fun a => a = p) p ob → Ok1 r F' H' R' → Ext r F H F' H' → Q (.ref p) H'
/-! ### comprehensions -/
def wipeD (τ : Tau) : List Nat → Tau
  | [] => τ
  | v :: vs => (wipeD τ vs).set v none
def setAllT (τ : Tau) (us : List (Nat × D)) : Tau := us.foldl (fun τ p => τ.set p.1 (some p.2)) τ
section
variable {G : Gx} {r : Option Addr} {F F' F1 : Fz} {H H' H1 : Hp} {R : Sr} {σ : L2.St} {τ : Tau}
theorem wipeD_length (τ : Tau) : ∀ vs : List Nat, (wipeD τ vs).length = τ.length
  | [] => rfl
  | v :: vs => by unfold wipeD; rw [List.length_set, wipeD_length τ vs]
theorem HoldT.wipe (h : HoldT G r F H σ τ) : ∀ vs, HoldT G r F H (L2.wipe σ vs) (wipeD τ vs)
  | [] => h
  | v :: vs => ⟨by rw [wipe_length, wipeD_length]; exact h.1, fun i d e => by
    have ih := HoldT.wipe h vs
    unfold wipeD at e
    unfold L2.wipe
    by_cases hi : v = i
    · subst hi
      have hl := (List.getElem?_eq_some_iff.mp e).1
      rw [List.length_set] at hl
      rw [List.getElem?_set_self hl] at e
      cases e
    · rw [List.getElem?_set_ne hi] at e ⊢
      exact ih.2 i d e⟩
theorem HoldT.setAll : ∀ {us : List (Nat × D)} {vs : List (Nat × V)} {σ : L2.St} {τ : Tau}, HoldT G r F H σ τ → RepU G r F H us vs → HoldT G r F H (setAll σ vs) (setAllT τ us)
  | [], vs, σ, τ, h, q => by simp only [RepU] at q; subst q; exact h
  | (i, d) :: us, vs, σ, τ, h, q => by
    simp only [RepU] at q
    obtain ⟨v, ws, rfl, q1, q2⟩ := q
    show HoldT G r F H (Nb.setAll (σ.set i (some v)) ws) (setAllT (τ.set i (some d)) us)
    refine HoldT.setAll ⟨by rw [List.length_set, List.length_set]; exact h.1, fun j d' e => ?_⟩ q2
    by_cases hj : i = j
    · subst hj
      have hl' := (List.getElem?_eq_some_iff.mp e).1
      rw [List.length_set] at hl'
      rw [List.getElem?_set_self hl'] at e
      cases e
      exact ⟨v, List.getElem?_set_self (by rw [h.1]; exact hl'), q1⟩
    · rw [List.getElem?_set_ne hj] at e ⊢
      exact h.2 j d' e
theorem HoldT.st (h : HoldT G r F H σ τ) (s : StF F H F' H') : HoldT G r F' H' σ τ := ⟨h.1, fun i d q =>
  let ⟨v, a, b⟩ := h.2 i d q
  ⟨v, a, s.rep b⟩⟩
theorem wipe_set {σ : L2.St} {i : Nat} {v : Option V} : ∀ {vs : List Nat}, i ∈ vs → wipe (σ.set i v) vs = wipe σ vs
  | [], h => nomatch h
  | j :: vs, h => by
    unfold wipe
    by_cases hj : i = j
    · subst hj
      by_cases hm : i ∈ vs
      · rw [wipe_set hm]
      · have e : ∀ vs : List Nat, i ∉ vs → wipe (σ.set i v) vs = (wipe σ vs).set i v := by
          intro vs
          induction vs with
          | nil => intro _; rfl
          | cons k vs ih =>
            intro hk
            unfold wipe
            rw [ih fun z => hk (List.mem_cons_of_mem _ z), List.set_comm _ _ fun z => hk (by rw [z]; exact List.mem_cons_self)]
        rw [e vs hm, List.set_set]
    · rcases List.mem_cons.mp h with h | h
      · exact absurd h hj
      · rw [wipe_set h]
theorem wipe_setAll : ∀ {ws : List (Nat × V)} {σ : L2.St} {vs : List Nat}, (∀ p ∈ ws, p.1 ∈ vs) → wipe (setAll σ ws) vs = wipe σ vs
  | [], σ, vs, _ => rfl
  | p :: ws, σ, vs, h => by
    show wipe (setAll (σ.set p.1 (some p.2)) ws) vs = _
    rw [wipe_setAll fun q hq => h q (List.mem_cons_of_mem _ hq), wipe_set (h p List.mem_cons_self)]
theorem wipe_twice {σ : L2.St} : ∀ {vs ws : List Nat}, (∀ v ∈ ws, v ∈ vs) → wipe (wipe σ ws) vs = wipe σ vs
  | vs, [], _ => rfl
  | vs, w :: ws, h => by
    show wipe ((wipe σ ws).set w none) vs = _
    rw [wipe_set (h w List.mem_cons_self), wipe_twice fun v hv => h v (List.mem_cons_of_mem _ hv)]
theorem RepU.ix : ∀ {us : List (Nat × D)} {vs : List (Nat × V)}, RepU G r F H us vs → vs.map (·.1) = us.map (·.1)
  | [], vs, h => by simp only [RepU] at h; subst h; rfl
  | (i, d) :: us, vs, h => by
    simp only [RepU] at h
    obtain ⟨v, ws, rfl, _, q⟩ := h
    simp [RepU.ix q]
end
/-- the items, one after another, from what a turn gives -/
def compS (g : D → Option (List (Nat × D))) (mt : Tau → M Bool) (me : ME) (vs : List Nat) (τ : Tau) : List D → M (List D)
  | [] => pure []
  | d :: ds => do
    let us ← opt (g d)
    let us' ← opt (if us.all fun p => vs.contains p.1 then some us else none)
    let b ← mt (setAllT τ us')
    let y ← (if b then (do let y ← me (setAllT τ us'); pure [y]) else pure [])
    let ys ← compS g mt me vs τ ds
    pure (y ++ ys)
def mComp (vs : List Nat) (mi : Tau → M (List D)) (g : D → Option (List (Nat × D))) (mt : Tau → M Bool) (me : ME) : Tau → M Own := fun τ => do
  let ds ← mi τ
  let xs ← compS g mt me vs (wipeD τ vs) ds
  opt (if xs.length ≤ 16000000 then some (.lst xs) else none)
def tYesM : Tau → M Bool := fun _ => pure true
theorem sts_nil {X : Cx} {G : Gx} : PTs X [] (tT G tYesM) := ⟨fun pins s σ H Q I h => pts_nil.run pins s σ H Q I (by
  obtain ⟨r, F, τ, R, b, R', ht, ho, e, q⟩ := h
  cases e
  exact q H F ho .refl)⟩
theorem sts_one {X : Cx} {G : Gx} {c : Expr} {m : Tau → M Bool} (h : PT X c (tT G m)) : PTs X [c] (tT G m) := pts_one h
section
variable {G : Gx}
theorem comp_core {r : Option Addr} {F1 : Fz} {H1 : Hp} {R1 R' : Sr} {J : It} {ds xs : List D} {σ : L2.St} {τ : Tau} {g : D → Option (List (Nat × D))} {mt : Tau → M Bool} {me : ME} {vs : List Nat} {Q : VK}
    (ht : HoldT G r F1 H1 σ τ) (w : WalksI G r F1 H1 J ds) (o1 : Ok1 r F1 H1 R1) (e : compS g mt me vs (wipeD τ vs) ds R1 = some (xs, R')) (hx : xs.length ≤ 16000000)
    (q : ∀ p H' F', H1 p = none → ¬ F' p → OwnAt G r F' H' (fun a => a = p) p (.lst xs) → Ok1 r F' H' R' → Ext r F1 H1 F' H' → Q (.ref p) H') :
    ∀ D, H1 D = none → ∃ W : Nat → Nat → Hp → Prop, (∃ m, W 0 m (upd H1 D (.lst []))) ∧ ∀ i m H, W i m H →
      (J.stop i H ∧ Q (.ref D) H) ∨ (J.go i H ∧ ∃ Nx : Hp → Prop, (∀ H', Nx H' → ∃ m', m' < m ∧ W (i + 1) m' H') ∧ ∀ x H', J.yld i H x H' → tG G g x (wipe σ vs) H' fun σ2 H2 => wipe σ2 vs = wipe σ vs ∧ tT G mt σ2 H2 fun b H3 =>
        if b = true then tE G me σ2 H3 fun y H4 => ∃ acc, H4 D = some (.lst acc) ∧ acc.length < sizeLine ∧ Nx (upd H4 D (.lst (acc ++ [y]))) else Nx H3) := by
  intro D hD
  have rD : r ≠ some D := fun z => by obtain ⟨u, h⟩ := o1.srcIn z; rw [hD] at h; cases h
  -- the turn's word
  let W : Nat → Nat → Hp → Prop := fun i m H => m = ds.length - i ∧ i ≤ ds.length ∧ ∃ F R acc pre rest, Ext r F1 H1 F H ∧ Ok1 r F H R ∧ ¬ F D ∧ H D = some (.lst acc) ∧ RepL G r F H pre acc ∧ compS g mt me vs (wipeD τ vs) (ds.drop i) R = some (rest, R') ∧ pre ++ rest = xs
  refine ⟨W, ⟨ds.length, by simp, Nat.zero_le _, F1, R1, [], [], xs, ?_⟩, ?_⟩
  · have a := new_own (o := .lst []) o1 hD
    exact ⟨a.2, a.1, (fun f => by obtain ⟨u, h⟩ := o1.fz D f; rw [hD] at h; cases h), upd_same, by simp only [RepL], by rw [List.drop_zero]; exact e, rfl⟩
  · rintro i m H ⟨rfl, hi, F, R, acc, pre, rest, x, o, nD, hacc, hr, ec, ep⟩
    obtain ⟨w1, w2, w3⟩ := w F H R (x.st o1) o i
    by_cases hlt : i < ds.length
    · have hd : ds.drop i = ds[i] :: ds.drop (i + 1) := List.drop_eq_getElem_cons hlt
      rw [hd] at ec
      obtain ⟨us, Ra, c1, c2⟩ := M.bind_some ec
      obtain ⟨c1', rfl⟩ := opt_some c1
      obtain ⟨us', Rb, c3, c4⟩ := M.bind_some c2
      obtain ⟨c3', rfl⟩ := opt_some c3
      split at c3'
      · rename_i hall
        cases c3'
        obtain ⟨b, Rc, c5, c6⟩ := M.bind_some c4
        obtain ⟨y, Rd', c7, c8⟩ := M.bind_some c6
        obtain ⟨ys, Re, c9, c10⟩ := M.bind_some c8
        cases c10
        refine .inr ⟨w1 hlt, W (i + 1) (ds.length - (i + 1)), fun H' n => ⟨_, by omega, n⟩, fun v H' yl => ?_⟩
        obtain ⟨F2, rv, o2, x2⟩ := w3 v H' yl ds[i] (List.getElem?_eq_getElem hlt)
        have nD2 : ¬ F2 D := fun f => by
          rcases x2.new D f with f | f
          · exact nD f
          · rw [hacc] at f; cases f
        have hacc2 : H' D = some (.lst acc) := x2.same D _ hacc rD
        refine ⟨r, F2, ds[i], us, rv, c1', fun ws hu => ⟨?_, ?_⟩⟩
        · rw [wipe_setAll, wipe_twice fun _ z => z]
          intro p hp
          have e1 := hu.ix
          have : p.1 ∈ us.map (·.1) := by rw [← e1]; exact List.mem_map_of_mem hp
          obtain ⟨p', hp', ep'⟩ := List.mem_map.mp this
          have h2 := List.all_eq_true.mp hall p' hp'
          rw [← ep']
          simpa using h2
        · have hT : HoldT G r F2 H' (setAll (wipe σ vs) ws) (setAllT (wipeD τ vs) us) :=
            HoldT.setAll (((ht.wipe vs).st (x.st o1)).st (x2.st o)) hu
          refine ⟨r, F2, _, _, b, Rc, hT, o2, c5, fun H3 F3 o3 x3 => ?_⟩
          have hacc3 : H3 D = some (.lst acc) := x3.same D _ hacc2 rD
          have nD3 : ¬ F3 D := fun f => by
            rcases x3.new D f with f | f
            · exact nD2 f
            · rw [hacc2] at f; cases f
          cases b with
          | false =>
            cases c7
            simp only [Bool.false_eq_true, if_false]
            refine ⟨rfl, hlt, F3, _, acc, pre, ys, (x.trans o (x2.trans o2 x3)), o3, nD3, hacc3, x3.repL o2 (x2.repL o hr), c9, ?_⟩
            simpa using ep
          | true =>
            simp only [if_true]
            obtain ⟨z, Rf, c11, c12⟩ := M.bind_some c7
            cases c12
            refine ⟨r, F3, _, _, z, Rd', hT.st (x3.st o2), o3, c11, fun u H4 F4 ru o4 x4 => ?_⟩
            have hacc4 : H4 D = some (.lst acc) := x4.same D _ hacc3 rD
            have nD4 : ¬ F4 D := fun f => by
              rcases x4.new D f with f | f
              · exact nD3 f
              · rw [hacc3] at f; cases f
            have hpre : pre.length ≤ 16000000 := by
              have : xs.length = pre.length + ([z] ++ ys).length := by rw [← ep, List.length_append]
              omega
            refine ⟨acc, hacc4, by rw [← hr.length]; exact small_line hpre, rfl, hlt, F4, Rd', acc ++ [u], pre ++ [z], ys, ⟨?_, ?_, ?_⟩, ⟨?_, ?_⟩, nD4, upd_same, ?_, c9, ?_⟩
            · exact fun a f => x4.mono a (x3.mono a (x2.mono a (x.mono a f)))
            · intro a ob h n
              rw [upd_ne (ne_of_none h hD)]
              exact (x.trans o (x2.trans o2 (x3.trans o3 x4))).same a ob h n
            · exact (x.trans o (x2.trans o2 (x3.trans o3 x4))).new
            · intro a f
              obtain ⟨ob, h⟩ := o4.fz a f
              exact ⟨ob, by rw [upd_ne (fun z => nD4 (by rw [← z]; exact f))]; exact h⟩
            · have s := o4.sr
              cases Rd' with
              | none => exact s
              | some ns =>
                obtain ⟨b', e1, e2, e3⟩ := s
                exact ⟨b', e1, by rw [upd_ne (fun z => rD (by rw [← z]; exact e1))]; exact e2, e3⟩
            · have up : ∀ a, F4 a → Kp H4 (upd H4 D (.lst (acc ++ [u]))) a := fun a f => .of fun ob h => by
                rw [upd_ne (fun z => nD4 (by rw [← z]; exact f))]; exact h
              exact RepL.mono (fun _ z => z) up _ _ ((x4.repL o3 (x3.repL o2 (x2.repL o hr))).append (RepL.one ru))
            · rw [← ep]; simp
      · cases c3'
    · have ei : i = ds.length := by omega
      subst ei
      rw [List.drop_length] at ec
      cases ec
      exact .inl ⟨w2 (Nat.le_refl _), q D H F hD nD ⟨acc, hacc, by rw [← ep, List.append_nil]; exact hr⟩ o x⟩
end
end Nb
set_option Elab.async false
set_option linter.all false
set_option maxRecDepth 100000
namespace Nb
open PySem PySem.Spec PyProof.Rows L2 RZ
theorem ok_upd {r : Option Addr} {F : Fz} {H : Hp} {R : Sr} {D : Addr} {ho : HO} (o : Ok1 r F H R) (nF : ¬ F D) (rD : r ≠ some D) : Ok1 r F (upd H D ho) R := by
  refine ⟨fun a f => ?_, ?_⟩
  · obtain ⟨ob, h⟩ := o.fz a f
    exact ⟨ob, by rw [upd_ne (fun z => nF (by rw [← z]; exact f))]; exact h⟩
  · have s := o.sr
    cases R with
    | none => exact s
    | some ns =>
      obtain ⟨b', e1, e2, e3⟩ := s
      exact ⟨b', e1, by rw [upd_ne (fun z => rD (by rw [← z]; exact e1))]; exact e2, e3⟩
/-! ### dict comprehensions -/
def dcompS (g : D → Option (List (Nat × D))) (mt : Tau → M Bool) (mk mv : ME) (vs : List Nat) (τ : Tau) : List D → List (Key × D) → M (List (Key × D))
  | [], acc => pure acc
  | d :: ds, acc => do
    let us ← opt (g d)
    let us' ← opt (if us.all fun p => vs.contains p.1 then some us else none)
    let b ← mt (setAllT τ us')
    let acc' ← (if b then (do let k ← mk (setAllT τ us'); let v ← mv (setAllT τ us'); let kk ← opt (keyD k); pure (putD acc kk v)) else pure acc)
    dcompS g mt mk mv vs τ ds acc'
def mDcomp (vs : List Nat) (mi : Tau → M (List D)) (g : D → Option (List (Nat × D))) (mt : Tau → M Bool) (mk mv : ME) : Tau → M Own := fun τ => do
  let ds ← mi τ
  let xs ← dcompS g mt mk mv vs (wipeD τ vs) ds []
  opt (if xs.length ≤ 16000000 then some (.dct xs) else none)
theorem putD_len (kvs : List (Key × D)) (k : Key) (d : D) : kvs.length ≤ (putD kvs k d).length := by
  unfold putD
  split
  · rw [List.length_map]; exact Nat.le_refl _
  · rw [List.length_append]; exact Nat.le_add_right _ _
theorem dcompS_len {g : D → Option (List (Nat × D))} {mt : Tau → M Bool} {mk mv : ME} {vs : List Nat} {τ : Tau} : ∀ {ds : List D} {acc res : List (Key × D)} {R R' : Sr}, dcompS g mt mk mv vs τ ds acc R = some (res, R') → acc.length ≤ res.length
  | [], acc, res, R, R', h => by cases h; exact Nat.le_refl _
  | d :: ds, acc, res, R, R', h => by
    obtain ⟨us, Ra, c1, c2⟩ := M.bind_some h
    obtain ⟨us', Rb, c3, c4⟩ := M.bind_some c2
    obtain ⟨b, Rc, c5, c6⟩ := M.bind_some c4
    obtain ⟨acc', Rd', c7, c8⟩ := M.bind_some c6
    refine Nat.le_trans ?_ (dcompS_len c8)
    cases b with
    | false => cases c7; exact Nat.le_refl _
    | true =>
      obtain ⟨k, _, _, c9⟩ := M.bind_some c7
      obtain ⟨v, _, _, c10⟩ := M.bind_some c9
      obtain ⟨kk, _, _, c11⟩ := M.bind_some c10
      cases c11
      exact putD_len _ _ _
section
variable {G : Gx}
theorem dcomp_core {r : Option Addr} {F1 : Fz} {H1 : Hp} {R1 R' : Sr} {J : It} {ds : List D} {xs : List (Key × D)} {σ : L2.St} {τ : Tau} {g : D → Option (List (Nat × D))} {mt : Tau → M Bool} {mk mv : ME} {vs : List Nat} {Q : VK}
    (ht : HoldT G r F1 H1 σ τ) (w : WalksI G r F1 H1 J ds) (o1 : Ok1 r F1 H1 R1) (e : dcompS g mt mk mv vs (wipeD τ vs) ds [] R1 = some (xs, R')) (hx : xs.length ≤ 16000000)
    (q : ∀ p H' F', H1 p = none → ¬ F' p → OwnAt G r F' H' (fun a => a = p) p (.dct xs) → Ok1 r F' H' R' → Ext r F1 H1 F' H' → Q (.ref p) H') :
    ∀ D, H1 D = none → ∃ W : Nat → Nat → Hp → Prop, (∃ m, W 0 m (upd H1 D (.dK []))) ∧ ∀ i m H, W i m H →
      (J.stop i H ∧ Q (.ref D) H) ∨ (J.go i H ∧ ∃ Nx : Hp → Prop, (∀ H', Nx H' → ∃ m', m' < m ∧ W (i + 1) m' H') ∧ ∀ x H', J.yld i H x H' → tG G g x (wipe σ vs) H' fun σ2 H2 => wipe σ2 vs = wipe σ vs ∧ tT G mt σ2 H2 fun b H3 =>
        if b = true then tE G mk σ2 H3 fun y H4 => tE G mv σ2 H4 fun z H5 => ∃ kvs k, y = kV k ∧ H5 D = some (.dK kvs) ∧ kvs.length < sizeLine ∧ Nx (upd H5 D (.dK (putK kvs k z))) else Nx H3) := by
  intro D hD
  have rD : r ≠ some D := fun z => by obtain ⟨u, h⟩ := o1.srcIn z; rw [hD] at h; cases h
  let W : Nat → Nat → Hp → Prop := fun i m H => m = ds.length - i ∧ i ≤ ds.length ∧ ∃ F R acc pre, Ext r F1 H1 F H ∧ Ok1 r F H R ∧ ¬ F D ∧ H D = some (.dK acc) ∧ RepK G r F H pre acc ∧ dcompS g mt mk mv vs (wipeD τ vs) (ds.drop i) pre R = some (xs, R')
  refine ⟨W, ⟨ds.length, by simp, Nat.zero_le _, F1, R1, [], [], ?_⟩, ?_⟩
  · have a := new_own (o := .dK []) o1 hD
    exact ⟨a.2, a.1, (fun f => by obtain ⟨u, h⟩ := o1.fz D f; rw [hD] at h; cases h), upd_same, by simp only [RepK], by rw [List.drop_zero]; exact e⟩
  · rintro i m H ⟨rfl, hi, F, R, acc, pre, x, o, nD, hacc, hr, ec⟩
    obtain ⟨w1, w2, w3⟩ := w F H R (x.st o1) o i
    by_cases hlt : i < ds.length
    · have hd : ds.drop i = ds[i] :: ds.drop (i + 1) := List.drop_eq_getElem_cons hlt
      rw [hd] at ec
      obtain ⟨us, Ra, c1, c2⟩ := M.bind_some ec
      obtain ⟨c1', rfl⟩ := opt_some c1
      obtain ⟨us', Rb, c3, c4⟩ := M.bind_some c2
      obtain ⟨c3', rfl⟩ := opt_some c3
      split at c3'
      · rename_i hall
        cases c3'
        obtain ⟨b, Rc, c5, c6⟩ := M.bind_some c4
        obtain ⟨acc', Rd', c7, c8⟩ := M.bind_some c6
        refine .inr ⟨w1 hlt, W (i + 1) (ds.length - (i + 1)), fun H' n => ⟨_, by omega, n⟩, fun v H' yl => ?_⟩
        obtain ⟨F2, rv, o2, x2⟩ := w3 v H' yl ds[i] (List.getElem?_eq_getElem hlt)
        have nD2 : ¬ F2 D := fun f => by
          rcases x2.new D f with f | f
          · exact nD f
          · rw [hacc] at f; cases f
        have hacc2 : H' D = some (.dK acc) := x2.same D _ hacc rD
        refine ⟨r, F2, ds[i], us, rv, c1', fun ws hu => ⟨?_, ?_⟩⟩
        · rw [wipe_setAll, wipe_twice fun _ z => z]
          intro p hp
          have e1 := hu.ix
          have : p.1 ∈ us.map (·.1) := by rw [← e1]; exact List.mem_map_of_mem hp
          obtain ⟨p', hp', ep'⟩ := List.mem_map.mp this
          have h2 := List.all_eq_true.mp hall p' hp'
          rw [← ep']
          simpa using h2
        · have hT : HoldT G r F2 H' (setAll (wipe σ vs) ws) (setAllT (wipeD τ vs) us) := HoldT.setAll (((ht.wipe vs).st (x.st o1)).st (x2.st o)) hu
          refine ⟨r, F2, _, _, b, Rc, hT, o2, c5, fun H3 F3 o3 x3 => ?_⟩
          have hacc3 : H3 D = some (.dK acc) := x3.same D _ hacc2 rD
          have nD3 : ¬ F3 D := fun f => by
            rcases x3.new D f with f | f
            · exact nD2 f
            · rw [hacc2] at f; cases f
          cases b with
          | false =>
            cases c7
            simp only [Bool.false_eq_true, if_false]
            exact ⟨rfl, hlt, F3, _, acc, pre, (x.trans o (x2.trans o2 x3)), o3, nD3, hacc3, x3.repK o2 (x2.repK o hr), c8⟩
          | true =>
            simp only [if_true]
            obtain ⟨kd, Rf, c9, c10⟩ := M.bind_some c7
            obtain ⟨vd, Rg, c11, c12⟩ := M.bind_some c10
            obtain ⟨kk, Rh, c13, c14⟩ := M.bind_some c12
            obtain ⟨c13', rfl⟩ := opt_some c13
            cases c14
            refine ⟨r, F3, _, _, kd, Rf, hT.st (x3.st o2), o3, c9, fun u H4 F4 ru o4 x4 => ⟨r, F4, _, _, vd, _, (hT.st (x3.st o2)).st (x4.st o3), o4, c11, fun v5 H5 F5 ru5 o5 x5 => ?_⟩⟩
            have hacc4 : H4 D = some (.dK acc) := x4.same D _ hacc3 rD
            have hacc5 : H5 D = some (.dK acc) := x5.same D _ hacc4 rD
            have nD4 : ¬ F4 D := fun f => by
              rcases x4.new D f with f | f
              · exact nD3 f
              · rw [hacc3] at f; cases f
            have nD5 : ¬ F5 D := fun f => by
              rcases x5.new D f with f | f
              · exact nD4 f
              · rw [hacc4] at f; cases f
            have hpre : pre.length ≤ 16000000 := Nat.le_trans (Nat.le_trans (putD_len pre kk vd) (dcompS_len c8)) hx
            refine ⟨acc, kk, ru.key c13', hacc5, by rw [← hr.length]; exact small_line hpre, rfl, hlt, F5, _, putK acc kk v5, putD pre kk vd, ⟨?_, ?_, ?_⟩, ok_upd o5 nD5 rD, nD5, upd_same, ?_, c8⟩
            · exact fun a f => x5.mono a (x4.mono a (x3.mono a (x2.mono a (x.mono a f))))
            · intro a ob h n
              rw [upd_ne (ne_of_none h hD)]
              exact (x.trans o (x2.trans o2 (x3.trans o3 (x4.trans o4 x5)))).same a ob h n
            · exact (x.trans o (x2.trans o2 (x3.trans o3 (x4.trans o4 x5)))).new
            · have up : ∀ a, F5 a → Kp H5 (upd H5 D (.dK (putK acc kk v5))) a := fun a f => .of fun ob h => by
                rw [upd_ne (fun z => nD5 (by rw [← z]; exact f))]; exact h
              exact RepK.mono (fun _ z => z) up _ _ ((x5.repK o4 (x4.repK o3 (x3.repK o2 (x2.repK o hr)))).put kk ru5)
      · cases c3'
    · have ei : i = ds.length := by omega
      subst ei
      rw [List.drop_length] at ec
      cases ec
      exact .inl ⟨w2 (Nat.le_refl _), q D H F hD nD ⟨acc, hacc, hr⟩ o x⟩
end
/-! ### the rules -/
/-- an expression whose value is known ahead: a name, a field of one -/
def Told (G : Gx) (te : TE) (m : ME) : Prop := ∀ r F H σ τ R d R', HoldT G r F H σ τ → Ok1 r F H R → m τ R = some (d, R') → R' = R ∧ ∃ v, Rep G r F H d v ∧ ∀ F' H', StF F H F' H' → ∀ Q : VK, Q v H' → te σ H' Q
def mKeysI (ma : ME) : Tau → M (List D) := fun τ => do let x ← ma τ; opt (match x with | .dct kvs => some (keysD kvs) | _ => none)
section
variable {X : Cx} {G : Gx} {elt kx vx tg iter e : Expr} {ifs : List Expr} {scope : Scope} {own : List (Str × Nat)} {pos : Pos} {mi : Tau → M (List D)} {g : D → Option (List (Nat × D))} {mt : Tau → M Bool} {me mk mv ma : ME} {te : TE}
theorem told_var {i : Nat} : Told G (tVar i) (mV i) := fun r F H σ τ R d R' ht o e => by
  obtain ⟨e0, rfl⟩ := opt_some (show opt (τ[i]?.join) R = some (d, R') from e)
  have e' : τ[i]? = some (some d) := by
    cases h : τ[i]? with
    | none => rw [h] at e0; cases e0
    | some o => rw [h] at e0; exact congrArg some e0
  obtain ⟨v, h1, h2⟩ := ht.2 i d e'
  exact ⟨rfl, v, h2, fun F' H' _ Q q => ⟨v, h1, q⟩⟩
theorem told_fld {c f : Str} {i : Nat} (T : ClsOk G.K G c) (hi : (G.fl c)[i]? = some f) (h : Told G te ma) : Told G (tFld G.K te f) (mFun1 (fldD c i) ma) := fun r F H σ τ R d R' ht o e => by
  obtain ⟨x, R1, e1, e2⟩ := M.bind_some e
  obtain ⟨e3, rfl⟩ := opt_some e2
  obtain ⟨rfl, v, rv, k⟩ := h r F H σ τ R x _ ht o e1
  unfold fldD at e3
  split at e3
  · split at e3
    · rename_i hc
      subst hc
      simp only [Rep] at rv
      obtain ⟨n, dx, vs, rfl, f1, f2, l, z, q1⟩ := rv
      obtain ⟨w, h1, h2⟩ := q1.get e3
      exact ⟨rfl, w, h2, fun F' H' s Q q => k F' H' s _ ⟨n, _, dx, _, w, rfl, (s.2.1 n f1).2.1 _ _ _ l, T.cl, T.na f (List.mem_of_getElem? hi), by rw [look_zip T.nd hi]; exact h1, q⟩⟩
    · cases e3
  · cases e3
section
variable {r : Option Addr} {F : Fz} {H : Hp} {R : Sr} {a : Addr} {ws : List (Key × V)} {od : Obj}
theorem lock_st (h : H a = some (.dK ws)) : StF F H F (upd H a (.frz od (.dK ws))) := ⟨fun _ f => f, fun b _ => by
  by_cases e : b = a
  · subst e
    refine ⟨fun u _ q => ?_, fun _ _ _ q => ?_, fun _ q => ?_, fun _ q => ?_, fun _ q => ?_⟩
    · rcases q with q | ⟨o, q⟩
      · rw [h] at q; cases q; exact .inr ⟨od, upd_same⟩
      · rw [h] at q; cases q
    all_goals (rw [h] at q; cases q)
  · exact .of fun u q => by rw [upd_ne e]; exact q, fun b o u _ q => by
  by_cases e : b = a
  · rw [e, h] at q; cases q
  · rw [upd_ne e]; exact q⟩
theorem unlock_kp (h : H a = some (.frz od (.dK ws))) : ∀ b, F b → Kp H (upd H a (.dK ws)) b := fun b _ => by
  by_cases e : b = a
  · subst e
    refine ⟨fun u nf q => ?_, fun _ _ _ q => ?_, fun _ q => ?_, fun _ q => ?_, fun _ q => ?_⟩
    · rcases q with q | ⟨o, q⟩
      · rw [h] at q; cases q
        exact absurd rfl (nf _ _)
      · rw [h] at q; cases q; exact .of upd_same
    all_goals (rw [h] at q; cases q)
  · exact .of fun u q => by rw [upd_ne e]; exact q
/-- from before the lock to behind it -/
theorem lock_through {F' : Fz} {H' : Hp} (h : H a = some (.dK ws)) (f : F a) (s : StF F (upd H a (.frz od (.dK ws))) F' H') : H' a = some (.frz od (.dK ws)) ∧ StF F H F' (upd H' a (.dK ws)) := by
  have h' := s.2.2 a _ _ f upd_same
  refine ⟨h', s.1, fun b fb => ?_, fun b o u fb q => ?_⟩
  · by_cases e : b = a
    · subst e
      exact .of fun u q => by rw [h] at q; cases q; exact upd_same
    · have k := s.2.1 b fb
      unfold Kp at k ⊢
      unfold Rd at k ⊢
      rw [upd_ne e] at k ⊢
      exact k
  · by_cases e : b = a
    · rw [e, h] at q; cases q
    · rw [upd_ne e]; exact s.2.2 b o u fb (by rw [upd_ne e]; exact q)
end
end
end Nb
set_option Elab.async false
set_option linter.all false
set_option maxRecDepth 100000
namespace Nb
open PySem PySem.Spec PyProof.Rows L2 RZ
section
variable {X : Cx} {G : Gx} {elt kx vx tg iter e : Expr} {ifs : List Expr} {scope : Scope} {own : List (Str × Nat)} {pos : Pos} {mi : Tau → M (List D)} {g : D → Option (List (Nat × D))} {mt : Tau → M Bool} {me mk mv ma : ME} {te : TE}
theorem none_back {r : Option Addr} {F F1 : Fz} {H H1 : Hp} {R1 : Sr} {p : Addr} (o1 : Ok1 r F1 H1 R1) (x1 : Ext r F H F1 H1) (np : H1 p = none) : H p = none := by
  cases z : H p with
  | none => rfl
  | some u =>
    by_cases n : r = some p
    · obtain ⟨w, e⟩ := o1.srcIn n; rw [np] at e; cases e
    · rw [x1.same p u z n] at np; cases np
theorem so_lc (hc : X.calm = true) (hN : X.N.Nodup) (hi : PI X tg iter (tI G mi)) (ok : BlkOk X.N X.env.scope scope own)
    (hg : ∀ (s : Shared) (H : Hp) (C : Addr) (cl : List (Str × Addr)) (fp : List Addr), PG (X.blk s H scope (compEnvC scope cl C X.env) fp) tg (tG G g)) (ht : ∀ (s : Shared) (H : Hp) (C : Addr) (cl : List (Str × Addr)) (fp : List Addr), PTs (X.blk s H scope (compEnvC scope cl C X.env) fp) ifs (tT G mt))
    (he : ∀ (s : Shared) (H : Hp) (C : Addr) (cl : List (Str × Addr)) (fp : List Addr), PE (X.blk s H scope (compEnvC scope cl C X.env) fp) elt (tE G me)) (hs : ∀ x, foldedSetIterable iter X.env x = pure x := by intro _; rfl) :
    PE X (.ListComp elt [⟨tg, iter, ifs, 0⟩] scope pos) (tW G (mComp (own.map (·.2)) mi g mt me)) :=
  PE.mono (pe_lc hc hN hi ok hg ht he hs) fun σ H Q h => by
    obtain ⟨r, F, τ, R, d, R', hT, o, e, q⟩ := h
    obtain ⟨ds, R1, e1, e2⟩ := M.bind_some e
    obtain ⟨xs, Rb, e3, e4⟩ := M.bind_some e2
    obtain ⟨e5, rfl⟩ := opt_some e4
    split at e5
    · cases e5
      exact ⟨r, F, τ, R, ds, R1, hT, o, e1, fun J H1 F1 w o1 x1 => comp_core (hT.ext o x1) w o1 e3 ‹_› fun p H' F' np nF ow o' x' => q p H' F' (none_back o1 x1 np) nF ow o' (x1.trans o1 x')⟩
    · cases e5
theorem so_dc (hc : X.calm = true) (hN : X.N.Nodup) (hi : PI X tg iter (tI G mi)) (ok : BlkOk X.N X.env.scope scope own)
    (hg : ∀ (s : Shared) (H : Hp) (C : Addr) (cl : List (Str × Addr)) (fp : List Addr), PG (X.blk s H scope (compEnvC scope cl C X.env) fp) tg (tG G g)) (ht : ∀ (s : Shared) (H : Hp) (C : Addr) (cl : List (Str × Addr)) (fp : List Addr), PTs (X.blk s H scope (compEnvC scope cl C X.env) fp) ifs (tT G mt))
    (hk : ∀ (s : Shared) (H : Hp) (C : Addr) (cl : List (Str × Addr)) (fp : List Addr), PE (X.blk s H scope (compEnvC scope cl C X.env) fp) kx (tE G mk))
    (he : ∀ (s : Shared) (H : Hp) (C : Addr) (cl : List (Str × Addr)) (fp : List Addr), PE (X.blk s H scope (compEnvC scope cl C X.env) fp) vx (tE G mv)) (hs : ∀ x, foldedSetIterable iter X.env x = pure x := by intro _; rfl) :
    PE X (.DictComp kx vx [⟨tg, iter, ifs, 0⟩] scope pos) (tW G (mDcomp (own.map (·.2)) mi g mt mk mv)) :=
  PE.mono (pe_dc hc hN hi ok hg ht hk he hs) fun σ H Q h => by
    obtain ⟨r, F, τ, R, d, R', hT, o, e, q⟩ := h
    obtain ⟨ds, R1, e1, e2⟩ := M.bind_some e
    obtain ⟨xs, Rb, e3, e4⟩ := M.bind_some e2
    obtain ⟨e5, rfl⟩ := opt_some e4
    split at e5
    · cases e5
      exact ⟨r, F, τ, R, ds, R1, hT, o, e1, fun J H1 F1 w o1 x1 => dcomp_core (hT.ext o x1) w o1 e3 ‹_› fun p H' F' np nF ow o' x' => q p H' F' (none_back o1 x1 np) nF ow o' (x1.trans o1 x')⟩
    · cases e5
/-- what a locked dict means for the state -/
theorem locked {r : Option Addr} {F : Fz} {H : Hp} {R : Sr} {a : Addr} {ws : List (Key × V)} {od : Obj} (o : Ok1 r F H R) (f : F a) (h : H a = some (.dK ws)) : Ok1 r F (upd H a (.frz od (.dK ws))) R := by
  have ra := o.nofz f
  refine ⟨fun b k => ?_, ?_⟩
  · by_cases e : b = a
    · exact ⟨_, by rw [e]; exact upd_same⟩
    · obtain ⟨u, q⟩ := o.fz b k
      exact ⟨u, by rw [upd_ne e]; exact q⟩
  · have s := o.sr
    cases R with
    | none => exact s
    | some ns =>
      obtain ⟨b, e1, e2, e3⟩ := s
      exact ⟨b, e1, by rw [upd_ne (fun z => ra (by rw [← z]; exact e1))]; exact e2, e3⟩
theorem ok_unlock {r : Option Addr} {F F' : Fz} {H H' : Hp} {R R' : Sr} {a : Addr} {ws : List (Key × V)} (o : Ok1 r F H R) (f : F a) (o' : Ok1 r F' H' R') : Ok1 r F' (upd H' a (.dK ws)) R' := by
  have ra := o.nofz f
  refine ⟨fun b k => ?_, ?_⟩
  · by_cases e : b = a
    · exact ⟨_, by rw [e]; exact upd_same⟩
    · obtain ⟨u, q⟩ := o'.fz b k
      exact ⟨u, by rw [upd_ne e]; exact q⟩
  · have s := o'.sr
    cases R' with
    | none => exact s
    | some ns =>
      obtain ⟨b, e1, e2, e3⟩ := s
      exact ⟨b, e1, by rw [upd_ne (fun z => ra (by rw [← z]; exact e1))]; exact e2, e3⟩
theorem ext_unlock {r : Option Addr} {F F' : Fz} {H H' : Hp} {R : Sr} {a : Addr} {ws : List (Key × V)} {od : Obj} (o : Ok1 r F H R) (f : F a) (h : H a = some (.dK ws)) (x : Ext r F (upd H a (.frz od (.dK ws))) F' H') : H' a = some (.frz od (.dK ws)) ∧ Ext r F H F' (upd H' a (.dK ws)) := by
  have ra := o.nofz f
  have h' : H' a = some (.frz od (.dK ws)) := x.same a _ upd_same ra
  refine ⟨h', ⟨x.mono, fun b u q n => ?_, fun b k => ?_⟩⟩
  · by_cases e : b = a
    · subst e
      rw [h] at q; cases q; exact upd_same
    · rw [upd_ne e]
      exact x.same b u (by rw [upd_ne e]; exact q) n
  · rcases x.new b k with k | k
    · exact .inl k
    · by_cases e : b = a
      · rw [e, upd_same] at k; cases k
      · rw [upd_ne e] at k; exact .inr k
/-! ### going through a dict -/
def valsD (kvs : List (Key × D)) : List D := kvs.map (·.2)
def keyOf : Key → D | .inl i => .int i | .inr s => .str s
def itemsD (kvs : List (Key × D)) : List D := kvs.map fun kv => .tup [keyOf kv.1, kv.2]
abbrev SS := V → Hp → (It → Hp → Prop) → Prop
def SK : SS := fun x H1 R => ∃ d o, x = .ref d ∧ ((∃ kvs, H1 d = some (.frz o (.dK kvs)) ∧ R (Itk d o kvs) H1) ∨ ∃ kvs, H1 d = some (.frz o (.dT kvs)) ∧ R (Itkt d o kvs) H1)
def SJ (J : Addr → Obj → List (Key × V) → It) : SS := fun x H1 R => ∃ d o kvs, x = .ref d ∧ H1 d = some (.frz o (.dK kvs)) ∧ R (J d o kvs) H1
def SOk (S : SS) (J : Addr → Obj → List (Key × V) → It) : Prop := ∀ d o kvs H1 R, H1 d = some (.frz o (.dK kvs)) → R (J d o kvs) H1 → S (.ref d) H1 R
theorem sok_keys : SOk SK Itk := fun d o kvs H1 R h q => ⟨d, o, rfl, .inl ⟨kvs, h, q⟩⟩
theorem sok_J {J : Addr → Obj → List (Key × V) → It} : SOk (SJ J) J := fun d o kvs H1 R h q => ⟨d, o, kvs, rfl, h, q⟩
def WkD (G : Gx) (J : Addr → Obj → List (Key × V) → It) (sel : List (Key × D) → List D) : Prop := ∀ r F H a od kvs ws, F a → H a = some (.frz od (.dK ws)) → RepK G r F H kvs ws → WalksI G r F H (J a od ws) (sel kvs)
theorem wk_keys : WkD G Itk keysD := fun r F H a od kvs ws f h q => walks_keys h (fun F' H' st => st.2.2 a _ _ f h) q
theorem repK_get {r : Option Addr} {F : Fz} {H : Hp} : ∀ {kvs : List (Key × D)} {ws : List (Key × V)} {i : Nat} {k : Key} {d : D}, RepK G r F H kvs ws → kvs[i]? = some (k, d) → ∃ v, ws[i]? = some (k, v) ∧ Rep G r F H d v
  | [], ws, i, k, d, h, e => by simp at e
  | (j, d0) :: ds, ws, 0, k, d, h, e => by
    simp only [RepK] at h
    obtain ⟨w, ws, rfl, a, b⟩ := h
    simp at e
    obtain ⟨rfl, rfl⟩ := e
    exact ⟨w, rfl, a⟩
  | (j, d0) :: ds, ws, i + 1, k, d, h, e => by
    simp only [RepK] at h
    obtain ⟨w, ws, rfl, a, b⟩ := h
    simp at e
    obtain ⟨v, e2, q⟩ := repK_get b e
    exact ⟨v, by simpa using e2, q⟩
theorem wk_vals : WkD G Itd valsD := fun r F H a od kvs ws f h q F' H' R' st ok i => by
  have l' := st.2.2 a _ _ f h
  have q' : RepK G r F' H' kvs ws := RepK.mono st.1 st.2.1 _ _ q
  have e0 : (valsD kvs).length = ws.length := by unfold valsD; rw [List.length_map, q.length]
  refine ⟨fun hi => ⟨l', by rw [← e0]; exact hi⟩, fun hi => ⟨l', by rw [← e0]; exact hi⟩, fun x H'' y d hd => ?_⟩
  obtain ⟨rfl, k, h1⟩ := y
  unfold valsD at hd
  rw [List.getElem?_map] at hd
  cases e : kvs[i]? with
  | none => rw [e] at hd; cases hd
  | some p =>
    rw [e] at hd
    cases hd
    obtain ⟨v, h2, rv⟩ := repK_get q' (show kvs[i]? = some (p.1, p.2) from e)
    rw [h1] at h2
    cases h2
    exact ⟨F', rv, ok, .refl⟩
theorem rep_key {r : Option Addr} {F : Fz} {H : Hp} {k : Key} : Rep G r F H (keyOf k) (kV k) := by
  cases k <;> simp only [keyOf, Rep, kV]
theorem wk_items : WkD G Iti itemsD := fun r F H a od kvs ws f h q F' H' R' st ok i => by
  have l' := st.2.2 a _ _ f h
  have q' : RepK G r F' H' kvs ws := RepK.mono st.1 st.2.1 _ _ q
  have e0 : (itemsD kvs).length = ws.length := by unfold itemsD; rw [List.length_map, q.length]
  refine ⟨fun hi => ⟨l', by rw [← e0]; exact hi⟩, fun hi => ⟨l', by rw [← e0]; exact hi⟩, fun x H'' y d hd => ?_⟩
  unfold itemsD at hd
  rw [List.getElem?_map] at hd
  cases e : kvs[i]? with
  | none => rw [e] at hd; cases hd
  | some p =>
    rw [e] at hd
    cases hd
    obtain ⟨v, h2, rv⟩ := repK_get q' (show kvs[i]? = some (p.1, p.2) from e)
    obtain ⟨T, k, w0, h1, rfl, hT, rfl⟩ := y
    rw [h1] at h2
    cases h2
    have q2 : RepL G r F' H' [keyOf p.1, p.2] [kV p.1, v] := by
      simp only [RepL]
      exact ⟨_, _, rfl, rep_key, _, _, rfl, rv, rfl⟩
    exact ⟨_, rep_tup ok hT q2, (new_frozen ok hT).1, (new_frozen ok hT).2⟩
def mLkI (sel : List (Key × D) → List D) (ma : ME) : Tau → M (List D) := fun τ => do let x ← ma τ; opt (match x with | .dct kvs => some (sel kvs) | _ => none)
/-- an expression that goes through a dict: the dict locked, or the caller has it locked -/
theorem lk_core {S : SS} {J : Addr → Obj → List (Key × V) → It} {sel : List (Key × D) → List D} {te : TE} {ma : ME} (hT : Told G te ma) (hS : SOk S J) (hw : WkD G J sel) {mk : List D → Tau → M Own} {P : It → L2.St → Hp → VK → Prop}
    (core : ∀ r F1 H1 R1 τ σ J ds d R' Q, HoldT G r F1 H1 σ τ → WalksI G r F1 H1 J ds → Ok1 r F1 H1 R1 → mk ds τ R1 = some (d, R') → (∀ p H' F', H1 p = none → ¬ F' p → OwnAt G r F' H' (fun a => a = p) p d → Ok1 r F' H' R' → Ext r F1 H1 F' H' → Q (.ref p) H') → P J σ H1 Q)
    {σ : L2.St} {H : Hp} {Q : VK} (h : tW G (fun τ => do let ds ← mLkI sel ma τ; mk ds τ) σ H Q) :
    (te σ H fun x H1 => S x H1 fun J H2 => P J σ H2 Q) ∨ tLockE (fun σ H Q => te σ H fun x H1 => S x H1 fun J H2 => P J σ H2 Q) σ H Q := by
  obtain ⟨r, F, τ, R, d, R', ht, o, e, q⟩ := h
  obtain ⟨ds, R1, e1, e2⟩ := M.bind_some e
  obtain ⟨x, Rb, e3, e4⟩ := M.bind_some e1
  obtain ⟨e5, rfl⟩ := opt_some e4
  obtain ⟨rfl, v, rv, k⟩ := hT r F H σ τ R x _ ht o e3
  split at e5
  · rename_i kvs
    cases e5
    simp only [Rep] at rv
    obtain ⟨a, ws, rfl, f, rd, q1⟩ := rv
    rcases rd with rd | ⟨od, rd⟩
    · refine .inr ⟨a, _, rd, trivial, fun od => ?_⟩
      have st := lock_st (F := F) (od := od) rd
      refine k F _ st _ (hS a od ws _ _ upd_same ?_)
      refine core r F _ _ τ σ _ _ d R' _ (ht.st st) (hw r F _ a od kvs ws f upd_same (RepK.mono st.1 st.2.1 _ _ q1)) (locked o f rd) e2 fun p H' F' np nF ow o' x' => ?_
      obtain ⟨h', x2⟩ := ext_unlock o f rd x'
      have pa : p ≠ a := fun z => by rw [z, upd_same] at np; cases np
      rw [upd_ne pa] at np
      exact ⟨h', q p _ F' np nF (ow.mono rfl (fun _ z => z) (unlock_kp h') (fun b hb u hu => by rw [upd_ne (by rw [hb]; exact pa)]; exact hu) fun _ z => z) (ok_unlock o f o') x2⟩
    · exact .inl (k F H .refl _ (hS a od ws _ _ rd (core r F H _ τ σ _ _ d R' Q ht (hw r F H a od kvs ws f rd q1) o e2 q)))
  · cases e5
def compR (vs : List Nat) (g : D → Option (List (Nat × D))) (mt : Tau → M Bool) (me : ME) (ds : List D) (τ : Tau) : M Own := do
  let xs ← compS g mt me vs (wipeD τ vs) ds
  opt (if xs.length ≤ 16000000 then some (.lst xs) else none)
def dcompR (vs : List Nat) (g : D → Option (List (Nat × D))) (mt : Tau → M Bool) (mk mv : ME) (ds : List D) (τ : Tau) : M Own := do
  let xs ← dcompS g mt mk mv vs (wipeD τ vs) ds []
  opt (if xs.length ≤ 16000000 then some (.dct xs) else none)
theorem so_lcD {S : SS} {J : Addr → Obj → List (Key × V) → It} {sel : List (Key × D) → List D} (hT : Told G te ma) (hS : SOk S J) (hw : WkD G J sel) (hc : X.calm = true) (hN : X.N.Nodup) (hi : PI X tg iter fun σ H R => te σ H fun x H1 => S x H1 R) (ok : BlkOk X.N X.env.scope scope own)
    (hg : ∀ (s : Shared) (H : Hp) (C : Addr) (cl : List (Str × Addr)) (fp : List Addr), PG (X.blk s H scope (compEnvC scope cl C X.env) fp) tg (tG G g)) (ht : ∀ (s : Shared) (H : Hp) (C : Addr) (cl : List (Str × Addr)) (fp : List Addr), PTs (X.blk s H scope (compEnvC scope cl C X.env) fp) ifs (tT G mt))
    (he : ∀ (s : Shared) (H : Hp) (C : Addr) (cl : List (Str × Addr)) (fp : List Addr), PE (X.blk s H scope (compEnvC scope cl C X.env) fp) elt (tE G me)) (hs : ∀ x, foldedSetIterable iter X.env x = pure x := by intro _; rfl) :
    PE X (.ListComp elt [⟨tg, iter, ifs, 0⟩] scope pos) (tW G (mComp (own.map (·.2)) (mLkI sel ma) g mt me)) :=
  PE.mono (PE.or (pe_lc hc hN hi ok hg ht he hs) (pe_lock (pe_lc hc hN hi ok hg ht he hs))) fun σ H Q h =>
    lk_core hT hS hw (σ := σ) (H := H) (Q := Q) (mk := compR (own.map fun x : Str × Nat => x.2) g mt me)
      (P := fun J σ H1 Q => tLc (fun σ H R => R J H) (tG G g) (tT G mt) (tE G me) (own.map fun x : Str × Nat => x.2) σ H1 Q) (fun r F1 H1 R1 τ σ J ds d R' Q ht w o e q => by
        obtain ⟨xs, Rb, e3, e4⟩ := M.bind_some e
        obtain ⟨e5, rfl⟩ := opt_some e4
        split at e5
        · cases e5
          exact comp_core ht w o e3 ‹_› q
        · cases e5) h
theorem so_dcD {S : SS} {J : Addr → Obj → List (Key × V) → It} {sel : List (Key × D) → List D} (hT : Told G te ma) (hS : SOk S J) (hw : WkD G J sel) (hc : X.calm = true) (hN : X.N.Nodup) (hi : PI X tg iter fun σ H R => te σ H fun x H1 => S x H1 R) (ok : BlkOk X.N X.env.scope scope own)
    (hg : ∀ (s : Shared) (H : Hp) (C : Addr) (cl : List (Str × Addr)) (fp : List Addr), PG (X.blk s H scope (compEnvC scope cl C X.env) fp) tg (tG G g)) (ht : ∀ (s : Shared) (H : Hp) (C : Addr) (cl : List (Str × Addr)) (fp : List Addr), PTs (X.blk s H scope (compEnvC scope cl C X.env) fp) ifs (tT G mt))
    (hk : ∀ (s : Shared) (H : Hp) (C : Addr) (cl : List (Str × Addr)) (fp : List Addr), PE (X.blk s H scope (compEnvC scope cl C X.env) fp) kx (tE G mk))
    (he : ∀ (s : Shared) (H : Hp) (C : Addr) (cl : List (Str × Addr)) (fp : List Addr), PE (X.blk s H scope (compEnvC scope cl C X.env) fp) vx (tE G mv)) (hs : ∀ x, foldedSetIterable iter X.env x = pure x := by intro _; rfl) :
    PE X (.DictComp kx vx [⟨tg, iter, ifs, 0⟩] scope pos) (tW G (mDcomp (own.map (·.2)) (mLkI sel ma) g mt mk mv)) :=
  PE.mono (PE.or (pe_dc hc hN hi ok hg ht hk he hs) (pe_lock (pe_dc hc hN hi ok hg ht hk he hs))) fun σ H Q h =>
    lk_core hT hS hw (σ := σ) (H := H) (Q := Q) (mk := dcompR (own.map fun x : Str × Nat => x.2) g mt mk mv)
      (P := fun J σ H1 Q => tDc (fun σ H R => R J H) (tG G g) (tT G mt) (tE G mk) (tE G mv) (own.map fun x : Str × Nat => x.2) σ H1 Q) (fun r F1 H1 R1 τ σ J ds d R' Q ht w o e q => by
        obtain ⟨xs, Rb, e3, e4⟩ := M.bind_some e
        obtain ⟨e5, rfl⟩ := opt_some e4
        split at e5
        · cases e5
          exact dcomp_core ht w o e3 ‹_› q
        · cases e5) h
end
end Nb
set_option Elab.async false
set_option linter.all false
set_option maxRecDepth 100000
namespace Nb
open PySem PySem.Spec PyProof.Rows L2 RZ
/-! ### for loops -/
def loopS (g : D → Option (List (Nat × D))) (mb : MS) : List D → TauS → Sr → Out
  | [], τ, R => .nx τ R
  | d :: ds, τ, R => match g d with
    | none => .stuck
    | some us => match mb (setAllD τ us) R with
      | .nx τ' R' => loopS g mb ds τ' R'
      | .ct τ' R' => loopS g mb ds τ' R'
      | .bk τ' R' => .nx τ' R'
      | o => o
def mFor (mi : Tau → M (List D)) (g : D → Option (List (Nat × D))) (mb : MS) : MS := fun τ R => match mi (viewA τ) R with
  | some (ds, R') => loopS g mb ds τ R'
  | none => .stuck
section
variable {G : Gx} {r : Option Addr} {F0 F1 : Fz} {H1 : Hp} {H0 : Ht} {R R1 : Sr} {W : Nat → Addr → Prop} {σ : L2.St} {τ : TauS} {ds : List D} {J : It} {g : D → Option (List (Nat × D))} {mb : MS}
theorem for_core {E : Ends} (x : Ext r F0 H0 F1 H1) (o : Ok1 r F1 H1 R1) (k : HoldS G r F1 H1 H0 W σ τ) (w : WalksI G r F1 H1 J ds) (q : OutOk G r H0 F0 F1 H1 E (loopS g mb ds τ R1)) :
    ∃ Wd : Nat → Nat → L2.St → Hp → Prop, (∃ m, Wd 0 m σ H1) ∧ ∀ i m σ H, Wd i m σ H →
      (J.stop i H ∧ E.nx σ H) ∨ (J.go i H ∧ ∃ N : L2.St → Hp → Prop, (∀ σ' H', N σ' H' → ∃ m', m' < m ∧ Wd (i + 1) m' σ' H') ∧ ∀ x H', J.yld i H x H' → tG G g x σ H' fun σ2 H2 => tSS G mb { E with nx := N, ct := N, bk := E.nx } σ2 H2) := by
  let Wd : Nat → Nat → L2.St → Hp → Prop := fun i m σ H => m = ds.length - i ∧ i ≤ ds.length ∧ ∃ F W τ R, Ext r F0 H0 F H ∧ StF F1 H1 F H ∧ Ok1 r F H R ∧ HoldS G r F H H0 W σ τ ∧ OutOk G r H0 F0 F H E (loopS g mb (ds.drop i) τ R)
  refine ⟨Wd, ⟨ds.length, by simp, Nat.zero_le _, F1, W, τ, R1, x, .refl, o, k, by rw [List.drop_zero]; exact q⟩, ?_⟩
  rintro i m σ H ⟨rfl, hi, F, W, τ, R, x, st, o, k, q⟩
  obtain ⟨w1, w2, w3⟩ := w F H R st o i
  by_cases hlt : i < ds.length
  · have hd : ds.drop i = ds[i] :: ds.drop (i + 1) := List.drop_eq_getElem_cons hlt
    rw [hd] at q
    unfold loopS at q
    refine .inr ⟨w1 hlt, Wd (i + 1) (ds.length - (i + 1)), fun σ' H' n => ⟨_, by omega, n⟩, fun v H' yl => ?_⟩
    obtain ⟨F2, rv, o2, x2⟩ := w3 v H' yl ds[i] (List.getElem?_eq_getElem hlt)
    cases eg : g ds[i] with
    | none => rw [eg] at q; exact q.elim
    | some us =>
      rw [eg] at q
      dsimp only at q
      refine ⟨r, F2, ds[i], us, rv, eg, fun vs hu => ⟨r, H0, F0, F2, W, setAllD τ us, R, x.trans o x2, o2, (k.ext o x2).setAll hu, ?_⟩⟩
      have st2 := x2.st o
      cases eb : mb (setAllD τ us) R with
      | stuck => rw [eb] at q; exact q.elim
      | nx τ' R' =>
        rw [eb] at q
        exact fun σ' H3 F3 W3 z3 x3 o3 k3 => ⟨rfl, hlt, F3, W3, τ', R', x3, (st.trans st2).trans z3, o3, k3, OutOk.st (st2.trans z3) q⟩
      | ct τ' R' =>
        rw [eb] at q
        exact fun σ' H3 F3 W3 z3 x3 o3 k3 => ⟨rfl, hlt, F3, W3, τ', R', x3, (st.trans st2).trans z3, o3, k3, OutOk.st (st2.trans z3) q⟩
      | bk τ' R' =>
        rw [eb] at q
        exact fun σ' H3 F3 W3 z3 x3 o3 k3 => q σ' H3 F3 W3 (st2.trans z3) x3 o3 k3
      | rt d R' =>
        rw [eb] at q
        exact fun v H3 F3 z3 => q v H3 F3 (st2.trans z3)
      | ro d R' =>
        rw [eb] at q
        exact fun v H3 F3 z3 => q v H3 F3 (st2.trans z3)
  · have ei : i = ds.length := by omega
    subst ei
    rw [List.drop_length] at q
    exact .inl ⟨w2 (Nat.le_refl _), q σ H F W .refl x o k⟩
end
section
variable {X : Cx} {G : Gx} {iter tg : Expr} {body : List Stmt} {mi : Tau → M (List D)} {g : D → Option (List (Nat × D))} {mb : MS} {pos : Pos} {te : TE} {ma : ME}
theorem sp_for (hp : PassesOwn (model X.prog X.w) X.A X.env X.xe) (hc : X.calm = true) (hi : PI X tg iter (tI G mi)) (hg : PG X tg (tG G g)) (hb : PSs X body (tSS G mb))
    (hs : ∀ x, foldedSetIterable iter X.env x = pure x := by intro _; rfl) : PS X (.For tg iter body [] pos) (tSS G (mFor mi g mb)) :=
  PS.mono (ps_for hp hc hi hg hb hs) fun E σ H h => by
    obtain ⟨r, H0, F0, F, W, τ, R, x, o, k, q⟩ := h
    unfold mFor at q
    cases e1 : mi (viewA τ) R with
    | none => rw [e1] at q; exact q.elim
    | some p =>
      obtain ⟨ds, R1⟩ := p
      rw [e1] at q
      exact ⟨r, F, _, R, ds, R1, k.viewA, o, e1, fun J H1 F1 w o1 x1 => for_core (x.trans o x1) o1 (k.ext o x1) w (OutOk.st (x1.st o) q)⟩
def lockEnds (E : Ends) (a : Addr) (od : Obj) (u : HO) : Ends := ⟨fun σ' H' => H' a = some (.frz od u) ∧ E.nx σ' (upd H' a u), fun v H' => H' a = some (.frz od u) ∧ E.rt v (upd H' a u), fun σ' H' => H' a = some (.frz od u) ∧ E.bk σ' (upd H' a u), fun σ' H' => H' a = some (.frz od u) ∧ E.ct σ' (upd H' a u)⟩
/-- the heap at the start, with the lock on it -/
noncomputable def lockH0 (H0 : Ht) (a : Addr) (u : HO) : Ht := by
  classical
  exact ⟨fun b => if b = a ∧ H0 a ≠ none then some u else H0 b, H0.me⟩
theorem lockH0_none {H0 : Ht} {a b : Addr} {u : HO} : lockH0 H0 a u b = none ↔ H0 b = none := by
  show (if b = a ∧ H0 a ≠ none then some u else H0 b) = none ↔ _
  by_cases h : b = a ∧ H0 a ≠ none
  · rw [if_pos h]
    constructor
    · intro z; cases z
    · intro z; rw [h.1] at z; exact absurd z h.2
  · rw [if_neg h]
theorem lockH0_ne {H0 : Ht} {a b : Addr} {u : HO} (h : b ≠ a) : lockH0 H0 a u b = H0 b := by
  show (if b = a ∧ H0 a ≠ none then some u else H0 b) = _
  rw [if_neg fun z => h z.1]
section
variable {r : Option Addr} {F0 F : Fz} {H : Hp} {H0 : Ht} {R : Sr} {W : Nat → Addr → Prop} {σ : L2.St} {τ : TauS} {a : Addr} {ws : List (Key × V)} {od : Obj}
theorem ext_lock0 (x : Ext r F0 H0 F H) : Ext r F0 (lockH0 H0 a (.frz od (.dK ws))) F (upd H a (.frz od (.dK ws))) := by
  refine ⟨x.mono, fun b u q n => ?_, fun b f => ?_⟩
  · by_cases e : b = a
    · subst e
      rw [upd_same]
      unfold lockH0 at q
      dsimp only at q
      by_cases h : H0 b = none
      · rw [if_neg fun z => z.2 h, h] at q; cases q
      · rw [if_pos ⟨rfl, h⟩] at q; exact q
    · rw [lockH0_ne e] at q
      rw [upd_ne e]
      exact x.same b u q n
  · rcases x.new b f with f | f
    · exact .inl f
    · exact .inr (lockH0_none.mpr f)
theorem ext_unlock0 {F' : Fz} {H' : Hp} (ra : r ≠ some a) (h : H a = some (.dK ws)) (x : Ext r F0 H0 F H) (x' : Ext r F0 (lockH0 H0 a (.frz od (.dK ws))) F' H') : Ext r F0 H0 F' (upd H' a (.dK ws)) := by
  refine ⟨x'.mono, fun b u q n => ?_, fun b f => ?_⟩
  · by_cases e : b = a
    · subst e
      have := x.same b u q n
      rw [h] at this
      cases this
      exact upd_same
    · rw [upd_ne e]
      exact x'.same b u (by rw [lockH0_ne e]; exact q) n
  · rcases x'.new b f with f | f
    · exact .inl f
    · exact .inr (lockH0_none.mp f)
theorem hold_heap {F' : Fz} {H' : Hp} {H0' : Ht} (k : HoldS G r F H H0 W σ τ) (m : ∀ a, F a → F' a) (kp : ∀ b, F b → Kp H H' b) (ke : ∀ j b, W j b → ∀ u, H b = some u → H' b = some u) (n0 : ∀ b, H0 b = none → H0' b = none) (nf : ∀ j b, W j b → ¬ F' b) (hme : H0'.me = H0.me := by rfl) : HoldS G r F' H' H0' W σ τ where
  len := k.len
  at_ := fun i s e => by
    obtain ⟨v, a, b⟩ := k.at_ i s e
    refine ⟨v, a, ?_⟩
    cases s with
    | val d => exact Rep.mono m kp _ _ b
    | own ob =>
      obtain ⟨p, rfl, hp, b⟩ := b
      exact ⟨p, rfl, hp, b.mono hp m kp (fun a w u q => ke i a w u q) fun _ z => z⟩
  sep := fun i b w => by
    obtain ⟨t1, t2, t3, u, t4⟩ := k.sep i b w
    exact ⟨nf i b w, t2, n0 b t3, u, ke i b w u t4⟩
  dis := k.dis
  me := fun i c ds e => by rw [hme]; exact k.me i c ds e
theorem out_lock {E : Ends} {o : Out} (f : F a) (ra : r ≠ some a) (h : H a = some (.dK ws)) (ok : Ok1 r F H R) (x : Ext r F0 H0 F H) (q : OutOk G r H0 F0 F H E o) :
    OutOk G r (lockH0 H0 a (.frz od (.dK ws))) F0 F (upd H a (.frz od (.dK ws))) (lockEnds E a od (.dK ws)) o := by
  have cont : ∀ (P : L2.St → Hp → Prop) τ' R', (∀ σ' H' F' W', StF F H F' H' → Ext r F0 H0 F' H' → Ok1 r F' H' R' → HoldS G r F' H' H0 W' σ' τ' → P σ' H') →
      ∀ σ' H' F' W', StF F (upd H a (.frz od (.dK ws))) F' H' → Ext r F0 (lockH0 H0 a (.frz od (.dK ws))) F' H' → Ok1 r F' H' R' → HoldS G r F' H' (lockH0 H0 a (.frz od (.dK ws))) W' σ' τ' → H' a = some (.frz od (.dK ws)) ∧ P σ' (upd H' a (.dK ws)) := by
    intro P τ' R' q σ' H' F' W' st x' o' k'
    obtain ⟨h', st'⟩ := lock_through h f st
    refine ⟨h', q σ' _ F' W' st' (ext_unlock0 ra h x x') (ok_unlock ok f o') ?_⟩
    exact hold_heap k' (fun _ z => z) (unlock_kp h') (fun j b w u hb => by
      rw [upd_ne fun z => (k'.sep j b w).1 (by rw [z]; exact st.1 a f)]; exact hb) (fun b z => lockH0_none.mp z) fun j b w => (k'.sep j b w).1
  cases o with
  | stuck => exact q
  | nx τ' R' => exact cont _ τ' R' q
  | bk τ' R' => exact cont _ τ' R' q
  | ct τ' R' => exact cont _ τ' R' q
  | rt d R' =>
    intro v H' F' st rv x' o'
    obtain ⟨h', st'⟩ := lock_through h f st
    exact ⟨h', q v _ F' st' (Rep.mono (fun _ z => z) (unlock_kp h') _ _ rv) (ext_unlock0 ra h x x') (ok_unlock ok f o')⟩
  | ro ob R' =>
    intro p H' F' st n0 nF nr ow x' o'
    obtain ⟨h', st'⟩ := lock_through h f st
    have pa : p ≠ a := fun z => nF (by rw [z]; exact st.1 a f)
    exact ⟨h', q p _ F' st' (lockH0_none.mp n0) nF nr (ow.mono rfl (fun _ z => z) (unlock_kp h') (fun b hb u hu => by rw [upd_ne (by rw [hb]; exact pa)]; exact hu) fun _ z => z) (ext_unlock0 ra h x x') (ok_unlock ok f o')⟩
end
theorem sp_forD {S : SS} {J : Addr → Obj → List (Key × V) → It} {sel : List (Key × D) → List D} (hT : Told G te ma) (hS : SOk S J) (hw : WkD G J sel) (hp : PassesOwn (model X.prog X.w) X.A X.env X.xe) (hc : X.calm = true) (hi : PI X tg iter fun σ H R => te σ H fun x H1 => S x H1 R) (hg : PG X tg (tG G g)) (hb : PSs X body (tSS G mb))
    (hs : ∀ x, foldedSetIterable iter X.env x = pure x := by intro _; rfl) : PS X (.For tg iter body [] pos) (tSS G (mFor (mLkI sel ma) g mb)) :=
  PS.mono (PS.or (ps_for hp hc hi hg hb hs) (ps_lock (ps_for hp hc hi hg hb hs))) fun E σ H h => by
    obtain ⟨r, H0, F0, F, W, τ, R, x, o, k, q⟩ := h
    unfold mFor at q
    cases e1 : mLkI sel ma (viewA τ) R with
    | none => rw [e1] at q; exact q.elim
    | some p =>
      obtain ⟨ds, R1⟩ := p
      rw [e1] at q
      obtain ⟨d, Rb, e3, e4⟩ := M.bind_some e1
      obtain ⟨e5, rfl⟩ := opt_some e4
      obtain ⟨rfl, v, rv, kk⟩ := hT r F H σ _ R d _ k.viewA o e3
      split at e5
      · rename_i kvs
        cases e5
        simp only [Rep] at rv
        obtain ⟨a, ws, rfl, f, rd, q1⟩ := rv
        rcases rd with rd | ⟨od, rd⟩
        · refine .inr ⟨a, _, rd, trivial, fun od => ?_⟩
          have st := lock_st (F := F) (od := od) rd
          refine kk F _ st _ (hS a od ws _ _ upd_same ?_)
          have ra := o.nofz f
          exact for_core (ext_lock0 x) (locked o f rd) (hold_heap k (fun _ z => z) st.2.1 (fun j b w u hb => by rw [upd_ne fun z => (k.sep j b w).1 (by rw [z]; exact f)]; exact hb) (fun b z => lockH0_none.mpr z) fun j b w => (k.sep j b w).1)
            (hw r F _ a od kvs ws f upd_same (RepK.mono st.1 st.2.1 _ _ q1)) (out_lock f ra rd o x q)
        · exact .inl (kk F H .refl _ (hS a od ws _ _ rd (for_core x o k (hw r F H a od kvs ws f rd q1) q)))
      · cases e5
end
end Nb
set_option Elab.async false
set_option linter.all false
set_option maxRecDepth 100000
namespace Nb
open PySem PySem.Spec PyProof.Rows L2 RZ
/-! ### expressions that give a new object, not yet shared -/
def mFz (m : Tau → M Own) : ME := fun τ => do let ob ← m τ; opt (ownD ob)
section
variable {G : Gx} {r : Option Addr} {F F0 F1 : Fz} {H H0 H1 : Hp} {R : Sr} {p : Addr} {ob : Own} {d : D}
theorem ownAt_some {A : Addr → Prop} (ow : OwnAt G r F H A p ob) : ∃ u, H p = some u := by
  cases ob with
  | lst ds => obtain ⟨vs, a, _⟩ := ow; exact ⟨_, a⟩
  | dct ds => obtain ⟨vs, a, _⟩ := ow; exact ⟨_, a⟩
  | dl kvs => obtain ⟨L, _, a, _⟩ := ow; exact ⟨_, a⟩
  | obj c ds => obtain ⟨dx, vs, _, _, a, _⟩ := ow; exact ⟨_, a⟩
theorem frz_top (o : Ok1 r F H R) (np : r ≠ some p) (ow : OwnAt G r F H (fun a => a = p) p ob) (e : ownD ob = some d) : Rep G r (fun a => F a ∨ a = p) H d (.ref p) ∧ Ok1 r (fun a => F a ∨ a = p) H R := by
  refine ⟨?_, fun a k => ?_, ?_⟩
  · have mo : ∀ a, F a → (F a ∨ a = p) := fun a k => .inl k
    have kp : ∀ a, F a → Kp H H a := fun a _ => .of fun _ z => z
    cases ob with
    | lst ds =>
      cases e
      obtain ⟨vs, a, b⟩ := ow
      simp only [Rep]
      exact ⟨p, vs, rfl, ⟨.inr rfl, a⟩, RepL.mono mo kp _ _ b⟩
    | dct ds =>
      cases e
      obtain ⟨vs, a, b⟩ := ow
      simp only [Rep]
      exact ⟨p, vs, rfl, .inr rfl, .of a, RepK.mono mo kp _ _ b⟩
    | dl kvs => cases e
    | obj c ds => cases e
  · rcases k with k | k
    · exact o.fz a k
    · rw [k]; exact ownAt_some ow
  · have s := o.sr
    cases R with
    | none => exact s
    | some ns =>
      obtain ⟨b, e1, e2, e3⟩ := s
      exact ⟨b, e1, e2, fun k => k.elim e3 fun z => np (by rw [e1, z])⟩
theorem frz_ext (n : H0 p = none) (x : Ext r F0 H0 F H) : Ext r F0 H0 (fun a => F a ∨ a = p) H := ⟨fun a k => .inl (x.mono a k), x.same, fun a k => by
  rcases k with k | k
  · exact x.new a k
  · exact .inr (by rw [k]; exact n)⟩
theorem src_ne (o : Ok1 r F H R) (n : H p = none) : r ≠ some p := fun z => by obtain ⟨u, h⟩ := o.srcIn z; rw [n] at h; cases h
theorem se_frz {X : Cx} {e : Expr} {m : Tau → M Own} (h : PE X e (tW G m)) : PE X e (tE G (mFz m)) := PE.mono h fun σ H Q q => by
  obtain ⟨r, F, τ, R, d, R', ht, o, e, q⟩ := q
  obtain ⟨ob, R1, e1, e2⟩ := M.bind_some e
  obtain ⟨e3, rfl⟩ := opt_some e2
  refine ⟨r, F, τ, R, ob, _, ht, o, e1, fun p H' F' np nF ow o' x' => ?_⟩
  obtain ⟨a, b⟩ := frz_top o' (src_ne o np) ow e3
  exact q _ _ _ a b (frz_ext np x')
theorem own_lst {ds : List D} {vs : List V} (o : Ok1 r F H R) (hp : H p = none) (q : RepL G r F H ds vs) : ¬ F p ∧ OwnAt G r F (upd H p (.lst vs)) (fun a => a = p) p (.lst ds) ∧ Ok1 r F (upd H p (.lst vs)) R ∧ Ext r F H F (upd H p (.lst vs)) :=
  ⟨fun f => (by obtain ⟨u, h⟩ := o.fz p f; rw [hp] at h; cases h), ⟨vs, upd_same, (new_own o hp).2.repL o q⟩, (new_own o hp).1, (new_own o hp).2⟩
theorem own_dct {ds : List (Key × D)} {vs : List (Key × V)} (o : Ok1 r F H R) (hp : H p = none) (q : RepK G r F H ds vs) : ¬ F p ∧ OwnAt G r F (upd H p (.dK vs)) (fun a => a = p) p (.dct ds) ∧ Ok1 r F (upd H p (.dK vs)) R ∧ Ext r F H F (upd H p (.dK vs)) :=
  ⟨fun f => (by obtain ⟨u, h⟩ := o.fz p f; rw [hp] at h; cases h), ⟨vs, upd_same, (new_own o hp).2.repK o q⟩, (new_own o hp).1, (new_own o hp).2⟩
end
/-! built-ins -/
def CallO (G : Gx) (rr : List V → Hp → VK → Prop) (f : List D → Option Own) : Prop := ∀ r F H R xs us ob (Q : VK), Ok1 r F H R → RepL G r F H xs us → f xs = some ob →
  (∀ p H' F', H p = none → ¬ F' p → OwnAt G r F' H' (fun a => a = p) p ob → Ok1 r F' H' R → Ext r F H F' H' → Q (.ref p) H') → rr us H Q
def mFunO (f : List D → Option Own) (ms : Tau → M (List D)) : Tau → M Own := fun τ => do let xs ← ms τ; opt (f xs)
section
variable {X : Cx} {G : Gx} {a b c e o : Expr} {es rest : List Expr} {ma mb mc mo : ME} {ms : Tau → M (List D)} {p pos apos cpos : Pos}
theorem CallO.or {rr rr' : List V → Hp → VK → Prop} {f g : List D → Option Own} (h : CallO G rr f) (h' : CallO G rr' g) : CallO G (fun xs H Q => rr xs H Q ∨ rr' xs H Q) (fun xs => (f xs).or (g xs)) := by
  intro r F H R xs us d Q o ru e q
  have e : (f xs).or (g xs) = some d := e
  cases ef : f xs with
  | some d' => rw [ef] at e; cases e; exact .inl (h r F H R xs us d Q o ru ef q)
  | none => rw [ef] at e; exact .inr (h' r F H R xs us d Q o ru e q)
theorem tA.oneO {ma : Tau → M (List D)} {k : List D → M Own} {σ : L2.St} {H : Hp} {Q : VK} {P : List V → Hp → Prop} (h : tW G (fun τ => ma τ >>= k) σ H Q)
    (hk : ∀ r F R xs us H1 ob R', Ok1 r F H1 R → RepL G r F H1 xs us → k xs R = some (ob, R') → (∀ p H' F', H1 p = none → ¬ F' p → OwnAt G r F' H' (fun a => a = p) p ob → Ok1 r F' H' R' → Ext r F H1 F' H' → Q (.ref p) H') → P us H1) : tA G ma σ H P := by
  obtain ⟨r, F, τ, R, d, R', ht, ho, e, q⟩ := h
  obtain ⟨x, R1, e1, e2⟩ := M.bind_some e
  refine ⟨r, F, τ, R, x, R1, ht, ho, e1, fun u H1 F1 ru o1 x1 => hk r F1 R1 x u H1 d R' o1 ru e2 fun p H' F' np nF ow o' x' => q p H' F' ?_ nF ow o' (x1.trans o1 x')⟩
  cases z : H p with
  | none => rfl
  | some u =>
    by_cases n : r = some p
    · obtain ⟨w, e⟩ := o1.srcIn n; rw [np] at e; cases e
    · rw [x1.same p u z n] at np; cases np
theorem funO_ok {rr : List V → Hp → VK → Prop} {f : List D → Option Own} (hd : CallO G rr f) {σ : L2.St} {H : Hp} {Q : VK} (h : tW G (mFunO f ms) σ H Q) : tA G ms σ H fun vs H1 => rr vs H1 Q :=
  tA.oneO (k := fun xs => opt (f xs)) h fun r F R xs us H1 d R' o ru e q => by
    obtain ⟨e0, rfl⟩ := opt_some e
    exact hd r F H1 R' xs us d Q o ru e0 q
def lstO : List D → Option Own | [.lst ds] => some (.lst ds) | [.tup ds] => some (.lst ds) | _ => none
def lstKO : List D → Option Own | [.dct kvs] => some (.lst (keysD kvs)) | _ => none
def dctO : List D → Option Own | [.dct kvs] => some (.dct kvs) | _ => none
theorem o_lst : CallO G (fun xs H Q => ∃ p ys, xs = [V.ref p] ∧ (SqL G.K H p ys ∨ SqT G.K H p ys) ∧ ∀ l, H l = none → Q (.ref l) (upd H l (.lst ys))) lstO := by
  intro r F H R xs us d Q o ru e q
  unfold lstO at e
  split at e
  · cases e
    obtain ⟨v, rfl, r1⟩ := ru.single
    simp only [Rep] at r1
    obtain ⟨a, vs, rfl, l, q1⟩ := r1
    exact ⟨a, vs, rfl, .inl l.sq, fun n hn => let ⟨h1, h2, h3, h4⟩ := own_lst o hn q1; q n _ _ hn h1 h2 h3 h4⟩
  · cases e
    obtain ⟨v, rfl, r1⟩ := ru.single
    simp only [Rep] at r1
    obtain ⟨a, vs, rfl, l, q1⟩ := r1
    exact ⟨a, vs, rfl, .inr l.sq, fun n hn => let ⟨h1, h2, h3, h4⟩ := own_lst o hn q1; q n _ _ hn h1 h2 h3 h4⟩
  · cases e
theorem repL_keys {r : Option Addr} {F : Fz} {H : Hp} : ∀ {kvs : List (Key × D)} {ws : List (Key × V)}, RepK G r F H kvs ws → RepL G r F H (keysD kvs) (ws.map fun kv => kV kv.1)
  | [], ws, h => by simp only [RepK] at h; subst h; simp [keysD, RepL]
  | (j, d) :: ds, ws, h => by
    simp only [RepK] at h
    obtain ⟨w, ws, rfl, a, b⟩ := h
    have ih := repL_keys b
    simp only [keysD, List.map_cons, RepL] at ih ⊢
    exact ⟨_, _, rfl, rep_key, ih⟩
theorem o_lstK : CallO G (fun xs H Q => ∃ (a : Addr) (kvs : List (Key × V)), xs = [.ref a] ∧ Rd H a (.dK kvs) ∧ ∀ p, H p = none → Q (.ref p) (upd H p (.lst (kvs.map fun kv => kV kv.1)))) lstKO := by
  intro r F H R xs us d Q o ru e q
  unfold lstKO at e
  split at e
  · cases e
    obtain ⟨v, rfl, r1⟩ := ru.single
    simp only [Rep] at r1
    obtain ⟨a, vs, rfl, f, l, q1⟩ := r1
    exact ⟨a, vs, rfl, l, fun n hn => let ⟨h1, h2, h3, h4⟩ := own_lst o hn (repL_keys q1); q n _ _ hn h1 h2 h3 h4⟩
  · cases e
theorem o_dct : CallO G (fun xs H Q => ∃ (a : Addr) (kvs : List (Key × V)), xs = [.ref a] ∧ Rd H a (.dK kvs) ∧ ∀ p, H p = none → Q (.ref p) (upd H p (.dK kvs))) dctO := by
  intro r F H R xs us d Q o ru e q
  unfold dctO at e
  split at e
  · cases e
    obtain ⟨v, rfl, r1⟩ := ru.single
    simp only [Rep] at r1
    obtain ⟨a, vs, rfl, f, l, q1⟩ := r1
    exact ⟨a, vs, rfl, l, fun n hn => let ⟨h1, h2, h3, h4⟩ := own_dct o hn q1; q n _ _ hn h1 h2 h3 h4⟩
  · cases e
def listO : List D → Option Own := fun xs => (lstO xs).or (lstKO xs)
theorem o_list : CallO G (fun xs H Q => (∃ p ys, xs = [V.ref p] ∧ (SqL G.K H p ys ∨ SqT G.K H p ys) ∧ ∀ l, H l = none → Q (.ref l) (upd H l (.lst ys))) ∨ ∃ (a : Addr) (kvs : List (Key × V)), xs = [.ref a] ∧ Rd H a (.dK kvs) ∧ ∀ p, H p = none → Q (.ref p) (upd H p (.lst (kvs.map fun kv => kV kv.1)))) listO := CallO.or o_lst o_lstK
theorem so_list (hK : X.K = G.K) (hc : X.calm = true) (hm : X.mg "list" = none) (ha : PA X [e] (tA G ms)) (hg : Gl X "list" := by rfl) (hs : starEach [e] X.env = (false, eval e X.env) :: starEach [] X.env := by rfl) (hpl : (backTo pos (starEach [] X.env)).any (·.1) = false := by rfl) :
    PE X (.Call (.Name "list" p) [e] [] pos) (tW G (mFunO listO ms)) :=
  PE.mono (pe_callTy (call_list_of.or (call_listD hc)) hg hm (by decide +kernel) ha (by decide) (by decide) hs hpl) fun σ H Q h => (by rw [hK]; exact funO_ok o_list h)
theorem so_dict (hm : X.mg "dict" = none) (ha : PA X [e] (tA G ms)) (hg : Gl X "dict" := by rfl) (hs : starEach [e] X.env = (false, eval e X.env) :: starEach [] X.env := by rfl) (hpl : (backTo pos (starEach [] X.env)).any (·.1) = false := by rfl) :
    PE X (.Call (.Name "dict" p) [e] [] pos) (tW G (mFunO dctO ms)) :=
  PE.mono (pe_callTy call_dictD hg hm (by decide +kernel) ha (by decide) (by decide) hs hpl) fun σ H Q h => funO_ok o_dct h
/-! displays -/
def mLstO (ms : Tau → M (List D)) : Tau → M Own := fun τ => do let xs ← ms τ; opt (if xs.length ≤ 1000 then some (.lst xs) else none)
theorem so_lst {ms : Tau → M (List D)} (h : PA X es (tA G ms)) : PE X (.List es pos) (tW G (mLstO ms)) := PE.mono (pe_lst h) fun σ H Q q =>
  tA.oneO (k := fun xs => opt (if xs.length ≤ 1000 then some (.lst xs) else none)) q fun r F R xs us H1 d R' o ru e q => by
    obtain ⟨e0, rfl⟩ := opt_some e
    split at e0
    · cases e0
      exact ⟨le_line (by rw [← ru.length]; assumption), fun p hp => let ⟨h1, h2, h3, h4⟩ := own_lst o hp ru; q p _ _ hp h1 h2 h3 h4⟩
    · cases e0
theorem so_dict0 : PE X (.Dict [] [] pos) (tW G (fun _ => pure (.dct []))) := PE.mono pe_dnewK fun σ H Q q => by
  obtain ⟨r, F, τ, R, d, R', ht, ho, e, q⟩ := q
  cases e
  exact fun p hp => let ⟨h1, h2, h3, h4⟩ := own_dct ho hp (by simp only [RepK]); q p _ _ hp h1 h2 h3 h4
theorem so_dl0 : PE X (.Dict [] [] pos) (tW G (fun _ => pure (.dl []))) := PE.mono pe_dnewK fun σ H Q q => by
  obtain ⟨r, F, τ, R, d, R', ht, ho, e, q⟩ := q
  cases e
  exact fun p hp => let ⟨h1, _, h3, h4⟩ := own_dct (G := G) (ds := []) ho hp (by simp only [RepK]); q p _ _ hp h1 ⟨[], rfl, upd_same, List.nodup_nil, List.nodup_nil, fun x hx => nomatch hx⟩ h3 h4
/-! a + b of lists -/
def addO : Own → Option D := ownD
end
/-! ### statements -/
def EvP (G : Gx) (te : TE) (ev : TauS → M Own) : Prop := ∀ r (H0 : Ht) F0 F W τ R ob R' (σ : L2.St) H (Q : VK), Ext r F0 H0 F H → Ok1 r F H R → HoldS G r F H H0 W σ τ → ev τ R = some (ob, R') →
  (∀ p H1 F1, H p = none → ¬ F1 p → OwnAt G r F1 H1 (fun a => a = p) p ob → Ok1 r F1 H1 R' → Ext r F H F1 H1 → Q (.ref p) H1) → te σ H Q
def evP (m : Tau → M Own) : TauS → M Own := fun τ => m (viewA τ)
theorem evP_ok {G : Gx} {m : Tau → M Own} : EvP G (tW G m) (evP m) := fun r H0 F0 F W τ R ob R' σ H Q x o h e q => ⟨r, F, viewA τ, R, ob, R', h.viewA, o, e, q⟩
/-- with the own objects seen, where what is made hangs on none of them -/
def flatO : Own → Bool | .lst ds => ds.all fun d => (vD d).isSome | .dct kvs => kvs.all fun kv => (vD kv.2).isSome | _ => false
def evPB (m : Tau → M Own) : TauS → M Own := fun τ => do let ob ← m (viewB τ); opt (if flatO ob then some ob else none)
theorem repL_flat {G : Gx} {r r' : Option Addr} {F F' : Fz} {H H' : Hp} : ∀ {ds : List D} {vs : List V}, (ds.all fun d => (vD d).isSome) = true → RepL G r F H ds vs → RepL G r' F' H' ds vs
  | [], vs, _, h => by simpa only [RepL] using h
  | d :: ds, vs, hf, h => by
    simp only [RepL] at h ⊢
    obtain ⟨w, ws, rfl, a, b⟩ := h
    rw [List.all_cons, Bool.and_eq_true] at hf
    obtain ⟨u, hu⟩ := Option.isSome_iff_exists.mp hf.1
    exact ⟨w, ws, rfl, by rw [a.flat hu]; exact .of_flat hu, repL_flat hf.2 b⟩
theorem repK_flat {G : Gx} {r r' : Option Addr} {F F' : Fz} {H H' : Hp} : ∀ {ds : List (Key × D)} {vs : List (Key × V)}, (ds.all fun kv => (vD kv.2).isSome) = true → RepK G r F H ds vs → RepK G r' F' H' ds vs
  | [], vs, _, h => by simpa only [RepK] using h
  | (k, d) :: ds, vs, hf, h => by
    simp only [RepK] at h ⊢
    obtain ⟨w, ws, rfl, a, b⟩ := h
    rw [List.all_cons, Bool.and_eq_true] at hf
    obtain ⟨u, hu⟩ := Option.isSome_iff_exists.mp hf.1
    exact ⟨w, ws, rfl, by rw [a.flat hu]; exact .of_flat hu, repK_flat hf.2 b⟩
theorem evPB_ok {G : Gx} {m : Tau → M Own} : EvP G (tW G m) (evPB m) := fun r H0 F0 F W τ R ob R' σ H Q x o h e q => by
  obtain ⟨ob', R1, e1, e2⟩ := M.bind_some e
  obtain ⟨e3, rfl⟩ := opt_some e2
  split at e3
  · rename_i hf
    cases e3
    refine ⟨r, FW F W, viewB τ, R, ob, _, h.viewB, h.okB o, e1, fun p H' F' np nF ow o' x' => ?_⟩
    obtain ⟨o2, x2⟩ := backB h o o' x'
    refine q p H' F np (fun f => nF (x'.mono p (.inl f))) ?_ o2 x2
    cases ob with
    | lst ds => obtain ⟨vs, a, b⟩ := ow; exact ⟨vs, a, repL_flat hf b⟩
    | dct ds => obtain ⟨vs, a, b⟩ := ow; exact ⟨vs, a, repK_flat hf b⟩
    | dl _ => cases hf
    | obj _ _ => cases hf
  · cases e3
section
variable {G : Gx} {r : Option Addr} {F F0 : Fz} {H : Hp} {H0 : Ht} {R : Sr} {W : Nat → Addr → Prop} {σ : L2.St} {τ : TauS} {p : Addr} {ob : Own} {i : Nat}
theorem HoldS.adopt (h : HoldS G r F H H0 W σ τ) (nF : ¬ F p) (nr : r ≠ some p) (n0 : H0 p = none) (nW : ∀ j, ¬ W j p) (hob : ∀ c ds, ob ≠ .obj c ds) (ow : OwnAt G r F H (fun a => a = p) p ob) :
    HoldS G r F H H0 (setW W i fun a => a = p) (σ.set i (some (.ref p))) (τ.set i (some (.own ob))) where
  len := by rw [List.length_set, List.length_set]; exact h.len
  at_ := fun j s e => by
    by_cases hj : i = j
    · subst hj
      have hl : i < τ.length := by
        have := (List.getElem?_eq_some_iff.mp e).1
        rw [List.length_set] at this
        exact this
      rw [List.getElem?_set_self hl] at e
      cases e
      refine ⟨.ref p, List.getElem?_set_self (by rw [h.len]; exact hl), p, rfl, ?_, ?_⟩
      · rw [setW_same]
      · rw [setW_same]; exact ow
    · rw [List.getElem?_set_ne hj] at e ⊢
      rw [setW_ne (Ne.symm hj)]
      exact h.at_ j s e
  sep := fun j a w => by
    by_cases hj : j = i
    · subst hj
      rw [setW_same] at w
      subst w
      exact ⟨nF, nr, n0, ownAt_some ow⟩
    · rw [setW_ne hj] at w
      exact h.sep j a w
  dis := fun j k a w1 w2 => by
    by_cases hj : j = i
    · by_cases hk : k = i
      · rw [hj, hk]
      · subst hj
        rw [setW_same] at w1
        rw [setW_ne hk] at w2
        subst w1
        exact absurd w2 (nW k)
    · by_cases hk : k = i
      · subst hk
        rw [setW_same] at w2
        rw [setW_ne hj] at w1
        subst w2
        exact absurd w1 (nW j)
      · rw [setW_ne hj] at w1
        rw [setW_ne hk] at w2
        exact h.dis j k a w1 w2
  me := fun j c ds e => by
    by_cases hj : i = j
    · subst hj
      have hl : i < τ.length := by
        have := (List.getElem?_eq_some_iff.mp e).1
        rw [List.length_set] at this
        exact this
      rw [List.getElem?_set_self hl] at e
      cases e
      exact absurd rfl (hob c ds)
    · rw [List.getElem?_set_ne hj] at e ⊢
      exact h.me j c ds e
theorem notObj {A : Addr → Prop} (hA : ∀ a, A a → a = p) (ow : OwnAt G r F H A p ob) : ∀ c ds, ob ≠ .obj c ds := by
  rintro c ds rfl
  obtain ⟨dx, vs, a, b, _⟩ := ow
  exact b (hA _ a)
end
def mRetO (ev : TauS → M Own) : MS := fun τ R => match ev τ R with | some (ob, R') => .ro ob R' | none => .stuck
def plainO : Own → Bool | .lst _ => true | .dct _ => true | _ => false
def mRetL (i : Nat) : MS := fun τ R => match τ[i]? with | some (some (.own ob)) => if plainO ob then .ro ob R else .stuck | _ => .stuck
section
variable {X : Cx} {G : Gx} {e : Expr} {te : TE} {ev : TauS → M Own} {pos pos' : Pos} {x : Str} {i : Nat}
theorem new_facts {r : Option Addr} {F F0 : Fz} {H : Hp} {H0 : Ht} {R : Sr} {W : Nat → Addr → Prop} {σ : L2.St} {τ : TauS} {p : Addr} (x : Ext r F0 H0 F H) (o : Ok1 r F H R) (k : HoldS G r F H H0 W σ τ) (np : H p = none) : r ≠ some p ∧ H0 p = none ∧ ∀ j, ¬ W j p := by
  refine ⟨src_ne o np, ?_, fun j w => by obtain ⟨_, _, _, u, z⟩ := k.sep j p w; rw [np] at z; cases z⟩
  cases z : H0 p with
  | none => rfl
  | some u =>
    have := x.same p u z (src_ne o np)
    rw [np] at this; cases this
theorem sp_newP (he : PE X e te) (hv : EvP G te ev) (hN : X.N.Nodup) (hi : X.N[i]? = some x) (hx : Loc X.env.scope x) (hs : swapsWith e (some (.Name x pos')) pos.line X.env = pure false := by rfl)
    (hf : X.fn x = true ∨ X.env.scope.names.lookup x = some .local := by first | exact .inl rfl | exact .inr rfl | assumption) : PS X (.Assign [.Name x pos'] e pos) (tSS G (mNew i ev)) :=
  PS.mono (ps_set hN hi hx he hs hf) fun D σ H h => by
    obtain ⟨r, H0, F0, F, W, τ, R, x, o, k, q⟩ := h
    unfold mNew at q
    cases e1 : ev τ R with
    | none => rw [e1] at q; exact q.elim
    | some y =>
      rw [e1] at q
      refine hv r H0 F0 F W τ R y.1 y.2 σ H _ x o k e1 fun p H1 F1 np nF ow o1 x1 => ?_
      obtain ⟨f1, f2, f3⟩ := new_facts x o k np
      exact q _ _ F1 _ (x1.st o) (x.trans o x1) o1 ((k.ext o x1).adopt nF f1 f2 f3 (notObj (fun _ z => z) ow) ow)
theorem sp_retO (he : PE X e te) (hv : EvP G te ev) : PS X (.Return (some e) pos) (tSS G (mRetO ev)) := PS.mono (ps_ret he) fun D σ H h => by
  obtain ⟨r, H0, F0, F, W, τ, R, x, o, k, q⟩ := h
  unfold mRetO at q
  cases e1 : ev τ R with
  | none => rw [e1] at q; exact q.elim
  | some y =>
    rw [e1] at q
    refine hv r H0 F0 F W τ R y.1 y.2 σ H _ x o k e1 fun p H1 F1 np nF ow o1 x1 => ?_
    obtain ⟨f1, f2, f3⟩ := new_facts x o k np
    exact q p H1 F1 (x1.st o) f2 nF f1 ow (x.trans o x1) o1
theorem sp_retL (he : PE X e (tVar i)) : PS X (.Return (some e) pos) (tSS G (mRetL i)) := PS.mono (ps_ret he) fun D σ H h => by
  obtain ⟨r, H0, F0, F, W, τ, R, x, o, k, q⟩ := h
  unfold mRetL at q
  split at q
  · rename_i ob hi
    split at q
    · rename_i hp
      obtain ⟨v, hs, p, rfl, wp, ow⟩ := k.at_ i _ hi
      obtain ⟨s1, s2, s3, s4⟩ := k.sep i p wp
      refine ⟨.ref p, hs, q p H F .refl s3 s1 s2 ?_ x o⟩
      cases ob with
      | lst ds => exact ow
      | dct ds => exact ow
      | dl _ => cases hp
      | obj _ _ => cases hp
    · exact q.elim
  · exact q.elim
end
end Nb
set_option Elab.async false
set_option linter.all false
set_option maxRecDepth 100000
namespace Nb
open PySem PySem.Spec PyProof.Rows L2 RZ
/-! ### defs by their bodies -/
structure FunG (K : PySem.W.Frag) (x qual : Str) (st : Stmt) (f : Addr) (fd : FuncData) : Prop where
  ex : ∃ (oc : Value) (od : Option Addr) (dV kV doc pm : Value) (an : Option Addr) (cdv ct : Value) (osl : Array (Option Value)),
    fd = PySem.W.fnOf x qual (defArgs st) (defBody st) (defScope st) dV kV doc pm an cdv ct ∧ K.lookup f = some ⟨oc, od, .func fd, osl⟩ ∧ PySem.W.codeIn K cdv qual = true
  kp : PySem.W.keepIn K (.ref f) = true
theorem FunG.ok {P : Program} {w : World} {K : PySem.W.Frag} {mg : Str → Option Value} {base : Heap} {x qual : Str} {st : Stmt} {f : Addr} {fd : FuncData} {N ps : List Str} {k : Nat} {sp : Sp} (F : FunG K x qual st f fd) (S : FnScope N ps (defScope st)) (len : ∀ vs H Q E, sp vs H Q E → vs.length = ps.length)
    (hbody : ∀ (cdv : Value) (A : Around) (outer : List Env) (s : Shared) (H : Hp) (vs : List V) (Q : VK) (E : XK), Room k (A.deeper (envOfC qual (defScope st) s.heap.objs.size f cdv)) → sp vs H Q E →
      ∃ t, PSs (cxOf CX0 P w K mg base N qual (defScope st) f cdv A outer s H E).nox (defBody st) t ∧ t { nx := fun _ H' => Q .non H', rt := Q } (L2.start N vs) H) : FnOk P w K mg base CX0 (k + 1) f fd ps sp := by
  obtain ⟨oc, od, dV, kV, doc, pm, an, cdv, ct, osl, rfl, lk, hcd⟩ := F.ex
  refine fn_of lk hcd S len fun A outer s H vs Q E hr hsp => ?_
  obtain ⟨t, h, q⟩ := hbody cdv A outer s H vs Q E hr hsp
  exact ⟨t, h.nox, q⟩
theorem FunG.binds {K : PySem.W.Frag} {x qual : Str} {st : Stmt} {f : Addr} {fd : FuncData} {ps : List Str} (F : FunG K x qual st f fd)
    (h : ∀ (dV kV doc pm : Value) (an : Option Addr) (cdv ct : Value) (us : List Value), us.length = ps.length → bindArgs (PySem.W.fnOf x qual (defArgs st) (defBody st) (defScope st) dV kV doc pm an cdv ct) ⟨us, []⟩ = pure (ps.zip us)) : Binds K fd ps [] := by
  obtain ⟨oc, od, dV, kV, doc, pm, an, cdv, ct, osl, rfl, lk, hcd⟩ := F.ex
  exact .all (h dV kV doc pm an cdv ct)
theorem funG_mk {K : PySem.W.Frag} {x qual : Str} {st : Stmt} {f : Addr} {oc : Value} {od an : Option Addr} {osl : Array (Option Value)} {dV kV doc pm cdv ct : Value} (l : K.lookup f = some ⟨oc, od, .func (PySem.W.fnOf x qual (defArgs st) (defBody st) (defScope st) dV kV doc pm an cdv ct), osl⟩)
    (c : PySem.W.codeIn K cdv qual = true) (k : PySem.W.keepIn K (.ref f) = true) : FunG K x qual st f (PySem.W.fnOf x qual (defArgs st) (defBody st) (defScope st) dV kV doc pm an cdv ct) := ⟨⟨oc, od, dV, kV, doc, pm, an, cdv, ct, osl, rfl, l, c⟩, k⟩
def startD (n : Nat) (ds : List D) : TauS := ds.map (fun d => some (.val d)) ++ List.replicate (n - ds.length) none
def mDef (N : Nat) (mb : MS) : List D → M D := fun ds R => match mb (startD N ds) R with
  | .rt d R' => some (d, R')
  | .nx _ R' => some (.non, R')
  | .ro ob R' => (ownD ob).map fun d => (d, R')
  | _ => none
def mDefO (N : Nat) (mb : MS) : List D → M Own := fun ds R => match mb (startD N ds) R with
  | .ro ob R' => some (ob, R')
  | _ => none
def spW (G : Gx) (n : Nat) (mf : List D → M Own) : Sp := fun vs H Q _ => ∃ r F ds R ob R', RepL G r F H ds vs ∧ Ok1 r F H R ∧ ds.length = n ∧ mf ds R = some (ob, R') ∧ ∀ p H' F', H p = none → ¬ F' p → OwnAt G r F' H' (fun a => a = p) p ob → Ok1 r F' H' R' → Ext r F H F' H' → Q (.ref p) H'
structure DefOkO (P : Program) (w : World) (K : PySem.W.Frag) (mg : Str → Option Value) (base : Heap) (G : Gx) (k : Nat) (x : Str) (n : Nat) (dds : List D) (mf : List D → M Own) : Prop where
  ex : ∃ f fd ps ds dvs, FnOk P w K mg base CX0 k f fd ps (spW G n mf) ∧ mg x = some (.ref f) ∧ PySem.W.keepIn K (.ref f) = true ∧ Binds K fd ps ds ∧ Vals dvs ds ∧ ∀ r F H, RepL G r F H dds dvs
structure MetOkO (P : Program) (w : World) (K : PySem.W.Frag) (mg : Str → Option Value) (base : Heap) (G : Gx) (k : Nat) (c m : Str) (n : Nat) (dds : List D) (mf : List D → M Own) : Prop where
  ex : ∃ f fd ps ds dvs, FnOk P w K mg base CX0 k f fd ps (spW G n mf) ∧ Meth K (G.ca c) m f ∧ Binds K fd ps ds ∧ Vals dvs ds ∧ (∀ r F H, RepL G r F H dds dvs) ∧ m ∉ G.fl c
section
variable {G : Gx} {r : Option Addr} {F : Fz} {H : Hp} {R : Sr}
theorem startD_get {n : Nat} {ds : List D} {i : Nat} {s : Sv} (h : (startD n ds)[i]? = some (some s)) : ∃ d, ds[i]? = some d ∧ s = .val d := by
  unfold startD at h
  by_cases hi : i < ds.length
  · rw [List.getElem?_append_left (by rw [List.length_map]; exact hi), List.getElem?_map, List.getElem?_eq_getElem hi] at h
    cases h
    exact ⟨_, List.getElem?_eq_getElem hi, rfl⟩
  · rw [List.getElem?_append_right (by rw [List.length_map]; omega), List.getElem?_replicate] at h
    split at h <;> cases h
theorem start_get {N : List Str} {vs : List V} {i : Nat} {v : V} (h : vs[i]? = some v) : (L2.start N vs)[i]? = some (some v) := by
  have hi := (List.getElem?_eq_some_iff.mp h).1
  unfold L2.start
  rw [List.getElem?_append_left (by rw [List.length_map]; exact hi), List.getElem?_map, h]
  rfl
theorem hold_start {N : List Str} {ds : List D} {vs : List V} (q : RepL G r F H ds vs) : HoldS G r F H ⟨H, none⟩ (fun _ _ => False) (L2.start N vs) (startD N.length ds) where
  len := by
    have := q.length
    unfold L2.start startD
    rw [List.length_append, List.length_append, List.length_map, List.length_map, List.length_replicate, List.length_replicate, this]
  at_ := fun i s e => by
    obtain ⟨d, h, rfl⟩ := startD_get e
    obtain ⟨v, h1, h2⟩ := q.get h
    exact ⟨v, start_get h1, h2⟩
  sep := fun i a w => w.elim
  dis := fun i j a w => w.elim
  me := fun i c ds e => by
    obtain ⟨d, h, z⟩ := startD_get e
    cases z
end
section
variable {P : Program} {w : World} {K : PySem.W.Frag} {mg : Str → Option Value} {base : Heap} {G : Gx} {x qual c m : Str} {st : Stmt} {f : Addr} {fd : FuncData} {N ps : List Str} {k n : Nat} {mb : MS} {ds : List Value} {dvs : List V} {dds : List D}
def BodyOk (P : Program) (w : World) (K : PySem.W.Frag) (mg : Str → Option Value) (base : Heap) (G : Gx) (qual : Str) (st : Stmt) (f : Addr) (N : List Str) (k : Nat) (mb : MS) : Prop :=
  ∀ (cdv : Value) (A : Around) (outer : List Env) (s : Shared) (H : Hp) (E : XK), Room k (A.deeper (envOfC qual (defScope st) s.heap.objs.size f cdv)) → PSs (cxOf CX0 P w K mg base N qual (defScope st) f cdv A outer s H E).nox (defBody st) (tSS G mb)
theorem fn_val (Fn : FunG K x qual st f fd) (S : FnScope N ps (defScope st)) (hn : ps.length = n) (body : BodyOk P w K mg base G qual st f N k mb) : FnOk P w K mg base CX0 (k + 1) f fd ps (spM G n (mDef N.length mb)) := by
  refine Fn.ok S (fun vs H Q E h => ?_) (fun cdv A outer s H vs Q E hr h => ⟨_, body cdv A outer s H E hr, ?_⟩)
  · obtain ⟨r, F, ds, R, d, R', ru, o, hl, _⟩ := h
    rw [← ru.length, hl, hn]
  · obtain ⟨r, F, ds, R, d, R', ru, o, hl, e, q⟩ := h
    refine ⟨r, ⟨H, none⟩, F, F, _, _, R, .refl, o, hold_start ru, ?_⟩
    unfold mDef at e
    split at e
    · rename_i e1; cases e; rw [e1]; exact fun v H' F' _ rv x' o' => q v H' F' rv o' x'
    · rename_i e1; cases e; rw [e1]; exact fun σ' H' F' W' _ x' o' _ => q .non H' F' (by simp only [Rep]) o' x'
    · rename_i ob R1 e1
      rw [e1]
      cases e2 : ownD ob with
      | none => rw [e2] at e; cases e
      | some d' =>
        rw [e2] at e; cases e
        intro p H' F' _ n0 nF nr ow x' o'
        obtain ⟨a, b⟩ := frz_top o' nr ow e2
        exact q _ H' _ a b (frz_ext n0 x')
    · cases e
theorem fn_own (Fn : FunG K x qual st f fd) (S : FnScope N ps (defScope st)) (hn : ps.length = n) (body : BodyOk P w K mg base G qual st f N k mb) : FnOk P w K mg base CX0 (k + 1) f fd ps (spW G n (mDefO N.length mb)) := by
  refine Fn.ok S (fun vs H Q E h => ?_) (fun cdv A outer s H vs Q E hr h => ⟨_, body cdv A outer s H E hr, ?_⟩)
  · obtain ⟨r, F, ds, R, d, R', ru, o, hl, _⟩ := h
    rw [← ru.length, hl, hn]
  · obtain ⟨r, F, ds, R, d, R', ru, o, hl, e, q⟩ := h
    refine ⟨r, ⟨H, none⟩, F, F, _, _, R, .refl, o, hold_start ru, ?_⟩
    unfold mDefO at e
    split at e
    · rename_i e1
      cases e
      rw [e1]
      exact fun p H' F' _ n0 nF nr ow x' o' => q p H' F' n0 nF ow o' x'
    · cases e
theorem def_ok (Fn : FunG K x qual st f fd) (S : FnScope N ps (defScope st)) (hm : mg x = some (.ref f)) (hb : Binds K fd ps ds) (hv : Vals dvs ds) (hd : ∀ r F H, RepL G r F H dds dvs) (hn : ps.length = n) (body : BodyOk P w K mg base G qual st f N k mb) :
    DefOk P w K mg base G (k + 1) x n dds (mDef N.length mb) := ⟨f, fd, ps, ds, dvs, fn_val Fn S hn body, hm, Fn.kp, hb, hv, hd⟩
theorem defO_ok (Fn : FunG K x qual st f fd) (S : FnScope N ps (defScope st)) (hm : mg x = some (.ref f)) (hb : Binds K fd ps ds) (hv : Vals dvs ds) (hd : ∀ r F H, RepL G r F H dds dvs) (hn : ps.length = n) (body : BodyOk P w K mg base G qual st f N k mb) :
    DefOkO P w K mg base G (k + 1) x n dds (mDefO N.length mb) := ⟨f, fd, ps, ds, dvs, fn_own Fn S hn body, hm, Fn.kp, hb, hv, hd⟩
theorem met_ok (Fn : FunG K x qual st f fd) (S : FnScope N ps (defScope st)) (hM : Meth K (G.ca c) m f) (hf : m ∉ G.fl c) (hb : Binds K fd ps ds) (hv : Vals dvs ds) (hd : ∀ r F H, RepL G r F H dds dvs) (hn : ps.length = n) (body : BodyOk P w K mg base G qual st f N k mb) :
    MetOk P w K mg base G (k + 1) c m n dds (mDef N.length mb) := ⟨f, fd, ps, ds, dvs, fn_val Fn S hn body, hM, hb, hv, hd, hf⟩
theorem metO_ok (Fn : FunG K x qual st f fd) (S : FnScope N ps (defScope st)) (hM : Meth K (G.ca c) m f) (hf : m ∉ G.fl c) (hb : Binds K fd ps ds) (hv : Vals dvs ds) (hd : ∀ r F H, RepL G r F H dds dvs) (hn : ps.length = n) (body : BodyOk P w K mg base G qual st f N k mb) :
    MetOkO P w K mg base G (k + 1) c m n dds (mDefO N.length mb) := ⟨f, fd, ps, ds, dvs, fn_own Fn S hn body, hM, hb, hv, hd, hf⟩
/-- a def that gives a new object, as one that gives a value -/
def ofO (mf : List D → M Own) : List D → M D := fun ds => do let ob ← mf ds; opt (ownD ob)
theorem sp_ofO {mf : List D → M Own} {vs H Q E} (h : spM G n (ofO mf) vs H Q E) : spW G n mf vs H Q E := by
  obtain ⟨r, F, ds, R, d, R', ru, o, hl, e, q⟩ := h
  obtain ⟨ob, R1, e1, e2⟩ := M.bind_some e
  obtain ⟨e3, rfl⟩ := opt_some e2
  refine ⟨r, F, ds, R, ob, _, ru, o, hl, e1, fun p H' F' np nF ow o' x' => ?_⟩
  obtain ⟨a, b⟩ := frz_top o' (src_ne o np) ow e3
  exact q _ _ _ a b (frz_ext np x')
theorem DefOkO.val {mf : List D → M Own} (T : DefOkO P w K mg base G k x n dds mf) : DefOk P w K mg base G k x n dds (ofO mf) := by
  obtain ⟨f, fd, ps, ds, dvs, h1, h2⟩ := T.ex
  exact ⟨f, fd, ps, ds, dvs, h1.imp fun _ _ _ _ h => sp_ofO h, h2⟩
theorem MetOkO.val {mf : List D → M Own} (T : MetOkO P w K mg base G k c m n dds mf) : MetOk P w K mg base G k c m n dds (ofO mf) := by
  obtain ⟨f, fd, ps, ds, dvs, h1, h2⟩ := T.ex
  exact ⟨f, fd, ps, ds, dvs, h1.imp fun _ _ _ _ h => sp_ofO h, h2⟩
/-- the mirror is no more than what is wanted of it -/
theorem DefOk.to {mf mf' : List D → M D} (T : DefOk P w K mg base G k x n dds mf) (h : ∀ ds R, ds.length = n → ∀ y, mf' ds R = some y → mf ds R = some y) : DefOk P w K mg base G k x n dds mf' := by
  obtain ⟨f, fd, ps, ds, dvs, h1, h2⟩ := T.ex
  refine ⟨f, fd, ps, ds, dvs, h1.imp fun _ _ _ _ q => ?_, h2⟩
  obtain ⟨r, F, ds, R, d, R', ru, o, hl, e, q⟩ := q
  exact ⟨r, F, ds, R, d, R', ru, o, hl, h ds R hl _ e, q⟩
/-- nothing is known of it: the level below a recursion's last -/
def mNone : List D → M D := fun _ _ => none
theorem DefOk.none_ (Fn : FunG K x qual st f fd) (hm : mg x = some (.ref f)) (hb : Binds K fd ps ds) (hv : Vals dvs ds) (hd : ∀ r F H, RepL G r F H dds dvs) : DefOk P w K mg base G k x n dds mNone := by
  refine ⟨f, fd, ps, ds, dvs, ⟨fun vs H Q E h => ?_, fun A outer s H args us vs Q E _ _ _ _ h => ?_⟩, hm, Fn.kp, hb, hv, hd⟩
  · obtain ⟨r, F, ds, R, d, R', ru, o, hl, e, q⟩ := h
    cases e
  · obtain ⟨r, F, ds, R, d, R', ru, o, hl, e, q⟩ := h
    cases e
/-! calls of such -/
variable {X : Cx} {e o : Expr} {es : List Expr} {ms : Tau → M (List D)} {mo : ME} {p pos apos : Pos}
def mCallO (n : Nat) (dds : List D) (mf : List D → M Own) (ms : Tau → M (List D)) : Tau → M Own := fun τ => do let xs ← ms τ; if xs.length + dds.length = n then mf (xs ++ dds) else opt none
theorem callO_ok {n : Nat} {dds : List D} {mf : List D → M Own} {dvs : List V} {E : XK} (hd : ∀ r F H, RepL G r F H dds dvs) {σ : L2.St} {H : Hp} {Q : VK} (h : tW G (mCallO n dds mf ms) σ H Q) : tA G ms σ H fun vs H1 => spW G n mf (vs ++ dvs) H1 Q E :=
  tA.oneO (k := fun xs => if xs.length + dds.length = n then mf (xs ++ dds) else opt none) h fun r F R xs us H1 d R' o ru e q => by
    split at e
    · exact ⟨r, F, _, R, d, R', ru.append (hd r F H1), o, by rw [List.length_append]; assumption, e, q⟩
    · cases (opt_some e).1
theorem so_call {k n : Nat} {x : Str} {dds : List D} {mf : List D → M Own} (U : DefOkO X.prog X.w X.K X.mg X.base G k x n dds mf) (hr : Room k X.A) (ha : PA X (e :: es) (tA G ms)) (hx : Passes CX0 X E0) (hg : Gl X x := by rfl)
    (hdb : (x == ("__debug__" : Str)) = false := by decide) (hs : starEach (e :: es) X.env = (false, eval e X.env) :: starEach es X.env := by rfl) (hpl : (backTo pos (starEach es X.env)).any (·.1) = false := by rfl) :
    PE X (.Call (.Name x p) (e :: es) [] pos) (tW G (mCallO n dds mf ms)) := by
  obtain ⟨f, fd, ps, ds, dvs, h1, h2, h3, h4, h5, h6⟩ := U.ex
  exact PE.mono (pe_call h1 hr hg h2 h3 h4 h5 hx ha hdb hs hpl) fun σ H Q h => callO_ok h6 h
theorem so_call0 {k n : Nat} {x : Str} {dds : List D} {mf : List D → M Own} (U : DefOkO X.prog X.w X.K X.mg X.base G k x n dds mf) (hr : Room k X.A) (hx : Passes CX0 X E0) (hg : Gl X x := by rfl)
    (hdb : (x == ("__debug__" : Str)) = false := by decide) :
    PE X (.Call (.Name x p) [] [] pos) (tW G (mCallO n dds mf fun _ => pure [])) := by
  obtain ⟨f, fd, ps, ds, dvs, h1, h2, h3, h4, h5, h6⟩ := U.ex
  refine PE.mono (pe_call0 h1 hr hg h2 h3 h4 h5 hx hdb) fun σ H Q h => ?_
  obtain ⟨r, F, τ, R, d, R', ht, ho, e, q⟩ := h
  have e : (if ([] : List D).length + dds.length = n then mf ([] ++ dds) else opt none : M Own) R = some (d, R') := e
  split at e
  · exact ⟨r, F, _, R, d, R', h6 r F H, ho, by simpa using ‹([] : List D).length + dds.length = n›, e, q⟩
  · cases (opt_some e).1
def mMethO (c : Str) (n : Nat) (dds : List D) (mf : List D → M Own) (mo : ME) (ms : Tau → M (List D)) : Tau → M Own := fun τ => do let x ← mo τ; let xs ← ms τ; if insOf c x = true ∧ xs.length + dds.length + 1 = n then mf (x :: (xs ++ dds)) else opt none
theorem methO_ok {c m : Str} {n : Nat} {dds : List D} {mf : List D → M Own} {dvs : List V} {E : XK} (hd : ∀ r F H, RepL G r F H dds dvs) (hm : m ∉ G.fl c) {σ : L2.St} {H : Hp} {Q : VK} (h : tW G (mMethO c n dds mf mo ms) σ H Q) : tMeth (G.ca c) m (spW G n mf) dvs E (tE G mo) (tA G ms) σ H Q := by
  obtain ⟨r, F, τ, R, d, R', ht, ho, e, q⟩ := h
  obtain ⟨x, R1, e1, e2⟩ := M.bind_some e
  obtain ⟨xs, Rb, e3, e4⟩ := M.bind_some e2
  split at e4
  · rename_i hc
    refine ⟨r, F, τ, R, x, R1, ht, ho, e1, fun u H1 F1 ru o1 x1 => ?_⟩
    obtain ⟨n1, dx, vs, rfl, l⟩ := insOf_rep hc.1 ru
    refine ⟨n1, dx, _, rfl, l, look_none hm, r, F1, τ, R1, xs, Rb, ht.ext ho x1, o1, e3, fun us H2 F2 rv o2 x2 => ?_⟩
    refine ⟨r, F2, _, Rb, d, R', ?_, o2, ?_, e4, fun p H' F' np nF ow o' x' => q p H' F' (none_back o1 x1 (none_back o2 x2 np)) nF ow o' ((x1.trans o1 x2).trans o2 x')⟩
    · simp only [RepL]
      exact ⟨_, _, rfl, x2.rep o1 ru, rv.append (hd r F2 H2)⟩
    · rw [List.length_cons, List.length_append]; exact hc.2
  · cases (opt_some e4).1
theorem so_meth {k n : Nat} {c m : Str} {dds : List D} {mf : List D → M Own} {pl : Sem Bool} (T : ClsOk X.K G c) (U : MetOkO X.prog X.w X.K X.mg X.base G k c m n dds mf) (hr : Room k X.A) (ho : PE X o (tE G mo)) (ha : PA X (e :: es) (tA G ms)) (hx : Passes CX0 X E0)
    (hs : starEach (e :: es) X.env = (false, eval e X.env) :: starEach es X.env := by rfl) (hpl : (backTo pos (starEach es X.env)).any (·.1) = false := by rfl)
    (hev : eval (.Call (.Attribute o m apos) (e :: es) [] pos) X.env = (do
      let ov ← eval o X.env
      standAt apos.atName
      let (f, first) ← holding [ov] (getMethod ov m pl)
      callWith pos f first (backTo pos (starEach (e :: es) X.env)) (backToKw pos (keywordEach [] X.env))) := by rfl) :
    PE X (.Call (.Attribute o m apos) (e :: es) [] pos) (tW G (mMethO c n dds mf mo ms)) := by
  obtain ⟨f, fd, ps, ds, dvs, h1, h2, h3, h4, h5, h6⟩ := U.ex
  exact PE.mono (pe_meth ho T.cl h2 h1 hr h3 h4 hx ha hs hpl hev) fun σ H Q h => methO_ok h5 h6 h
theorem so_meth0 {k n : Nat} {c m : Str} {dds : List D} {mf : List D → M Own} {pl : Sem Bool} (T : ClsOk X.K G c) (U : MetOkO X.prog X.w X.K X.mg X.base G k c m n dds mf) (hr : Room k X.A) (ho : PE X o (tE G mo)) (hx : Passes CX0 X E0)
    (hev : eval (.Call (.Attribute o m apos) [] [] pos) X.env = (do
      let ov ← eval o X.env
      standAt apos.atName
      let (f, first) ← holding [ov] (getMethod ov m pl)
      callWith pos f first (backTo pos (starEach [] X.env)) (backToKw pos (keywordEach [] X.env))) := by rfl) :
    PE X (.Call (.Attribute o m apos) [] [] pos) (tW G (mMethO c n dds mf mo fun _ => pure [])) := by
  obtain ⟨f, fd, ps, ds, dvs, h1, h2, h3, h4, h5, h6⟩ := U.ex
  refine PE.mono (pe_meth0 ho T.cl h2 h1 hr h3 h4 hx hev) fun σ H Q h => ?_
  obtain ⟨r, F, τ, R, d, R', ht, ho, e, q⟩ := h
  obtain ⟨x, R1, e1, e2⟩ := M.bind_some e
  have e2 : (if insOf c x = true ∧ ([] : List D).length + dds.length + 1 = n then mf (x :: ([] ++ dds)) else opt none : M Own) R1 = some (d, R') := e2
  split at e2
  · rename_i hc
    refine ⟨r, F, τ, R, x, R1, ht, ho, e1, fun u H1 F1 ru o1 x1 => ?_⟩
    obtain ⟨n1, dx, vs, rfl, l⟩ := insOf_rep hc.1 ru
    refine ⟨n1, dx, _, rfl, l, look_none h6, r, F1, _, R1, d, R', ?_, o1, ?_, e2, fun p H' F' np nF ow o' x' => q p H' F' (none_back o1 x1 np) nF ow o' (x1.trans o1 x')⟩
    · simp only [RepL, List.nil_append]
      exact ⟨_, _, rfl, ru, h5 r F1 H1⟩
    · rw [List.nil_append, List.length_cons]; have := hc.2; simp only [List.length_nil] at this; omega
  · cases (opt_some e2).1
end
end Nb
set_option Elab.async false
set_option linter.all false
set_option maxRecDepth 100000
namespace Nb
open PySem PySem.Spec PyProof.Rows L2 RZ
/-! ### new instances: __init__ -/
theorem putF_zip : ∀ {fs : List Str} {vs : List V} {f : Str} {v : V}, fs.Nodup → fs[vs.length]? = some f → putF f v (fs.zip vs) = fs.zip (vs ++ [v])
  | [], vs, f, v, _, h => by simp at h
  | g :: fs, [], f, v, _, h => by
    simp at h
    subst h
    simp [putF]
  | g :: fs, w :: vs, f, v, hn, h => by
    simp at h
    obtain ⟨n1, n2⟩ := List.nodup_cons.mp hn
    have ne : g ≠ f := fun e => n1 (e ▸ List.mem_of_getElem? h)
    simp only [List.zip_cons_cons, putF, if_neg ne, List.cons_append]
    rw [putF_zip n2 h]
def mSetF (c : Str) (fl : List Str) (i : Nat) (f : Str) (ev : TauS → M D) : MS := fun τ R => match ev τ R with
  | some (d, R') => match τ[i]? with
    | some (some (.own (.obj c' fs))) => if c' = c ∧ fl[fs.length]? = some f then .nx (τ.set i (some (.own (.obj c (fs ++ [d]))))) R' else .stuck
    | _ => .stuck
  | none => .stuck
def mInit (c : Str) (nf N : Nat) (mb : MS) : List D → M (List D) := fun ds R => match mb (some (.own (.obj c [])) :: startD (N - 1) ds) R with
  | .nx τ' R' => match (τ'[0]? : Option (Option Sv)) with
    | some (some (.own (.obj c' fs))) => if c' = c ∧ fs.length = nf then some (fs, R') else none
    | _ => none
  | _ => none
section
variable {X : Cx} {G : Gx} {e o : Expr} {te : TE} {ev : TauS → M D} {pos pos' : Pos} {c f : Str} {fl : List Str} {i : Nat}
theorem sp_fld (hK : X.K = G.K) (T : ClsOk G.K G c) (hG : G.fl c = fl) (hl : fl.length < 1000) (ho : PE X o (tVar i)) (he : PE X e te) (hv : EvS G te ev) (hs : swapsWith e (some (.Attribute o f pos')) pos.line X.env = pure false := by rfl) :
    PS X (.Assign [.Attribute o f pos'] e pos) (tSS G (mSetF c fl i f ev)) := PS.mono (ps_fld ho he hs) fun D σ H h => by
  obtain ⟨r, H0, F0, F, W, τ, R, x, o, k, q⟩ := h
  unfold mSetF at q
  cases e1 : ev τ R with
  | none => rw [e1] at q; exact q.elim
  | some y =>
    rw [e1] at q
    dsimp only at q
    split at q
    · rename_i c' fs hi
      split at q
      · rename_i hc
        obtain ⟨rfl, hf⟩ := hc
        refine hv r H0 F0 F W τ R y.1 y.2 σ H _ x o k e1 fun v H1 F1 rv o1 x1 xx k1 => ?_
        obtain ⟨_, hs, p, rfl, hp, dx, vs, a1, a2, a3, a4, a5, a6⟩ := k1.at_ i _ hi
        have hf' : (G.fl c')[vs.length]? = some f := by rw [hG, ← a5.length]; exact hf
        have hlt : vs.length < (G.fl c').length := (List.getElem?_eq_some_iff.mp hf').1
        refine ⟨.ref p, hs, p, _, dx, _, rfl, a3, by rw [hK]; exact T.cl, by rw [hK]; exact T.na f (List.mem_of_getElem? hf'), ?_, ?_⟩
        · rw [List.length_zip, hG]; exact Nat.lt_of_le_of_lt (Nat.min_le_left _ _) hl
        · rw [putF_zip T.nd hf']
          obtain ⟨o2, x2, k2, z2⟩ := own_write (ho := .ins (G.ca c') dx ((G.fl c').zip (vs ++ [v]))) (ob := .obj c' (fs ++ [y.1])) k1 o1 x1 hs (fun _ _ _ => by
            obtain ⟨p', h1, h2⟩ := k1.me i _ _ hi
            rw [hs] at h1; cases h1; exact h2) hp
            ⟨dx, vs ++ [v], a1, a2, upd_same, by rw [upd_ne a2]; exact a4, (repL_write k1 hp a5).append (RepL.one (rep_write k1 hp rv)), by rw [List.length_append, a5.length]; exact hlt⟩
          exact q σ _ F1 _ ((xx.st o).trans z2) x2 o2 k2
      · exact q.elim
    · exact q.elim
end
section
variable {P : Program} {w : World} {K : PySem.W.Frag} {mg : Str → Option Value} {base : Heap} {G : Gx} {x qual c m : Str} {st : Stmt} {f : Addr} {fd : FuncData} {N ps : List Str} {k n nf : Nat} {mb : MS} {ds : List Value} {dvs : List V} {dds : List D}
theorem fn_init (Fn : FunG K x qual st f fd) (S : FnScope N ps (defScope st)) (hn : ps.length = n + 1) (hN : 1 ≤ N.length) (hnf : (G.fl c).length = nf) (body : BodyOk P w K mg base G qual st f N k mb) : FnOk P w K mg base CX0 (k + 1) f fd ps (spI G c n (mInit c nf N.length mb)) := by
  refine Fn.ok S (fun vs H Q E h => ?_) (fun cdv A outer s H vs Q E hr h => ⟨_, body cdv A outer s H E hr, ?_⟩)
  · obtain ⟨r, F, x, dx, us, ds, R, fs, R', rfl, ru, hl, _⟩ := h
    rw [List.length_cons, ← ru.length, hl, hn]
  · obtain ⟨r, F, x, dx, us, ds, R, fs, R', rfl, ru, hl, o, nFx, nFd, rx, rd, ne, hx, hd, e, q⟩ := h
    have H0e : Ext r F (fun a => if a = x ∨ a = dx then none else H a) F H := ⟨fun _ z => z, fun a u z n => by
      split at z
      · cases z
      · exact z, fun _ z => .inl z⟩
    refine ⟨r, ⟨fun a => if a = x ∨ a = dx then none else H a, some x⟩, F, F, fun i a => i = 0 ∧ (a = x ∨ a = dx), some (.own (.obj c [])) :: startD (N.length - 1) ds, R, H0e, o, ⟨?_, fun i s hs => ?_, fun i a h => ?_, fun i j a h1 h2 => by rw [h1.1, h2.1], fun i c' ds' hs => ?_⟩, ?_⟩
    · have := ru.length
      unfold L2.start startD
      simp only [List.length_append, List.length_map, List.length_replicate, List.length_cons]
      omega
    · cases i with
      | zero =>
        cases hs
        refine ⟨.ref x, rfl, x, rfl, ⟨rfl, .inl rfl⟩, dx, [], ⟨rfl, .inr rfl⟩, ne, ?_, hd, by simp only [RepL], Nat.zero_le _⟩
        rw [hx, List.zip_nil_right]
      | succ i =>
        obtain ⟨d, h, rfl⟩ := startD_get (show (startD (N.length - 1) ds)[i]? = some (some s) from hs)
        obtain ⟨v, h1, h2⟩ := ru.get h
        exact ⟨v, start_get (vs := .ref x :: us) (by simpa using h1), h2⟩
    · obtain ⟨rfl, h⟩ := h
      rcases h with rfl | rfl
      · exact ⟨nFx, rx, by simp, _, hx⟩
      · exact ⟨nFd, rd, by simp, _, hd⟩
    · cases i with
      | zero => exact ⟨x, rfl, rfl⟩
      | succ i =>
        obtain ⟨d, h, z⟩ := startD_get (show (startD (N.length - 1) ds)[i]? = some (some (.own (.obj c' ds'))) from hs)
        cases z
    · unfold mInit at e
      split at e
      · rename_i τ' R1 e1
        rw [e1]
        split at e
        · rename_i c' fs' e2
          split at e
          · rename_i hc
            obtain ⟨rfl, hfs⟩ := hc
            cases e
            intro σ' H' F' W' z x' o' k'
            obtain ⟨v, hs, p, rfl, hp, dx', vs, a1, a2, a3, a4, a5, a6⟩ := k'.at_ 0 _ e2
            obtain ⟨p', hs', hm⟩ := k'.me 0 _ _ e2
            rw [hs] at hs'
            cases hs'
            cases hm
            obtain ⟨t1, t2, t3, t4⟩ := k'.sep 0 _ a1
            refine q H' F' vs dx' a5 o' ⟨x'.mono, fun b u hb nb nb' nr => x'.same b u (by show (if _ then _ else _) = _; rw [if_neg fun z => z.elim nb nb']; exact hb) nr, fun b fb => ?_⟩ a3 (by rw [← a5.length, hfs, hnf]) (k'.sep 0 _ hp).1 t1 ?_ t4
            · rcases x'.new b fb with h | h
              · exact .inl h
              · have h : (if b = x ∨ b = dx then none else H b) = none := h
                by_cases z : b = x ∨ b = dx
                · exact .inr (.inr z)
                · rw [if_neg z] at h; exact .inr (.inl h)
            · have h : (if dx' = x ∨ dx' = dx then none else H dx') = none := t3
              by_cases z : dx' = x ∨ dx' = dx
              · rcases z with z | z
                · exact absurd z a2
                · exact .inl z
              · rw [if_neg z] at h; exact .inr h
          · cases e
        · cases e
      · cases e
end
end Nb
set_option Elab.async false
set_option linter.all false
set_option maxRecDepth 100000
namespace Nb
open PySem PySem.Spec PyProof.Rows L2 RZ
section
variable {P : Program} {w : World} {K : PySem.W.Frag} {mg : Str → Option Value} {base : Heap} {G : Gx} {x qual c m : Str} {st : Stmt} {f : Addr} {fd : FuncData} {N ps : List Str} {k n nf : Nat} {mb : MS} {ds : List Value} {dvs : List V} {dds : List D}
theorem mak_ok (Fn : FunG K x qual st f fd) (S : FnScope N ps (defScope st)) (hm : mg c = some (.ref (G.ca c))) (hM : Mk K (G.ca c) f) (hb : Binds K fd ps ds) (hv : Vals dvs ds) (hd : ∀ r F H, RepL G r F H dds dvs) (hn : ps.length = n + 1) (hN : 1 ≤ N.length) (hnf : (G.fl c).length = nf) (body : BodyOk P w K mg base G qual st f N k mb) :
    MakOk P w K mg base G (k + 1) c n dds (mInit c nf N.length mb) := ⟨f, fd, ps, ds, dvs, fn_init Fn S hn hN hnf body, hm, hM, hb, hv, hd⟩
end
/-! ### d.setdefault(k, []).append(e) -/
def addDl (kvs : List (Str × List D)) (s : Str) : List (Str × List D) := if kvs.any (fun kv => decide (kv.1 = s)) then kvs else kvs ++ [(s, [])]
def appDl (kvs : List (Str × List D)) (s : Str) (d : D) : List (Str × List D) := kvs.map fun kv => if kv.1 = s then (kv.1, kv.2 ++ [d]) else kv
def mDl (i : Nat) (ek ev : TauS → M D) : MS := fun τ R => match ek τ R with
  | some (.str s, R1) => match τ[i]? with
    | some (some (.own (.dl kvs))) => match ev (τ.set i (some (.own (.dl (addDl kvs s))))) R1 with
      | some (d, R2) => if kvs.length ≤ 16000000 ∧ kvs.all (fun kv => decide (kv.2.length ≤ 16000000)) then .nx (τ.set i (some (.own (.dl (appDl (addDl kvs s) s d))))) R2 else .stuck
      | none => .stuck
    | _ => .stuck
  | _ => .stuck
section
variable {X : Cx} {G : Gx} {o e f kx : Expr} {tk te : TE} {ek ev : TauS → M D} {pos apos cpos apos2 cpos2 : Pos} {i : Nat}
theorem valV_dl {L : List (Str × Addr × List D)} {s : Str} : (valV (L.map fun x : Str × Addr × List D => ((Sum.inr x.1 : Key), V.ref x.2.1)) (Sum.inr s) = none ∧ (L.any fun x => decide (x.1 = s)) = false) ∨ ∃ a ds, valV (L.map fun x : Str × Addr × List D => ((Sum.inr x.1 : Key), V.ref x.2.1)) (Sum.inr s) = some (.ref a) ∧ (s, a, ds) ∈ L ∧ (L.any fun x => decide (x.1 = s)) = true := by
  induction L with
  | nil => exact .inl ⟨rfl, rfl⟩
  | cons y L ih =>
    obtain ⟨t, a, ds⟩ := y
    by_cases h : t = s
    · subst h
      exact .inr ⟨a, ds, by simp [valV], List.mem_cons_self, by simp⟩
    · have h' : (Sum.inr t : Key) ≠ Sum.inr s := fun z => h (Sum.inr.inj z)
      rcases ih with ⟨h1, h2⟩ | ⟨a', ds', h1, h2, h3⟩
      · exact .inl ⟨by simpa [valV, h] using h1, by simpa [h] using h2⟩
      · exact .inr ⟨a', ds', by simpa [valV, h] using h1, List.mem_cons_of_mem _ h2, by simp [h, h3]⟩
theorem nodup_by {α β : Type} {g : α → β} : ∀ {L : List α}, (L.map g).Nodup → ∀ {x y : α}, x ∈ L → y ∈ L → g x = g y → x = y
  | [], _, x, y, hx, _, _ => nomatch hx
  | z :: L, h, x, y, hx, hy, e => by
    rw [List.map_cons, List.nodup_cons] at h
    rcases List.mem_cons.mp hx with hx | hx
    · rcases List.mem_cons.mp hy with hy | hy
      · rw [hx, hy]
      · have m : g y ∈ L.map g := List.mem_map_of_mem hy
        rw [← e, hx] at m
        exact absurd m h.1
    · rcases List.mem_cons.mp hy with hy | hy
      · have m : g x ∈ L.map g := List.mem_map_of_mem hx
        rw [e, hy] at m
        exact absurd m h.1
      · exact nodup_by h.2 hx hy e
/-- behind the setdefault -/
theorem dl_set {r : Option Addr} {F F0 : Fz} {H : Hp} {H0 : Ht} {R : Sr} {W : Nat → Addr → Prop} {σ : L2.St} {τ : TauS} {p l : Addr} {s : Str} {L : List (Str × Addr × List D)} (k : HoldS G r F H H0 W σ τ) (o : Ok1 r F H R) (x : Ext r F0 H0 F H) (hs : σ[i]? = some (some (.ref p))) (hp : W i p)
    (b : H p = some (.dK (L.map fun x : Str × Addr × List D => ((Sum.inr x.1 : Key), V.ref x.2.1)))) (n1 : (L.map (·.2.1)).Nodup) (n2 : (L.map (·.1)).Nodup) (c : ∀ x ∈ L, W i x.2.1 ∧ x.2.1 ≠ p ∧ ∃ vs, H x.2.1 = some (.lst vs) ∧ RepL G r F H x.2.2 vs) (hl : H l = none) (hi : τ[i]? = some (some (.own (.dl (L.map fun x : Str × Addr × List D => (x.1, x.2.2)))))) :
    ((valV (L.map fun x : Str × Addr × List D => ((Sum.inr x.1 : Key), V.ref x.2.1)) (Sum.inr s) = none → ∃ W', Ok1 r F (upd (upd H l (.lst [])) p (.dK (putK (L.map fun x : Str × Addr × List D => ((Sum.inr x.1 : Key), V.ref x.2.1)) (Sum.inr s) (.ref l)))) R ∧ Ext r F0 H0 F (upd (upd H l (.lst [])) p (.dK (putK (L.map fun x : Str × Addr × List D => ((Sum.inr x.1 : Key), V.ref x.2.1)) (Sum.inr s) (.ref l)))) ∧
        HoldS G r F (upd (upd H l (.lst [])) p (.dK (putK (L.map fun x : Str × Addr × List D => ((Sum.inr x.1 : Key), V.ref x.2.1)) (Sum.inr s) (.ref l)))) H0 W' σ (τ.set i (some (.own (.dl (addDl (L.map fun x : Str × Addr × List D => (x.1, x.2.2)) s))))) ∧ StF F H F (upd (upd H l (.lst [])) p (.dK (putK (L.map fun x : Str × Addr × List D => ((Sum.inr x.1 : Key), V.ref x.2.1)) (Sum.inr s) (.ref l)))) ∧
        ∃ kv, upd (upd H l (.lst [])) p (.dK (putK (L.map fun x : Str × Addr × List D => ((Sum.inr x.1 : Key), V.ref x.2.1)) (Sum.inr s) (.ref l))) p = some (.dK kv) ∧ (Sum.inr s, V.ref l) ∈ kv)) ∧
    (∀ v, valV (L.map fun x : Str × Addr × List D => ((Sum.inr x.1 : Key), V.ref x.2.1)) (Sum.inr s) = some v → ∃ a, v = .ref a ∧ Ok1 r F (upd H l (.lst [])) R ∧ Ext r F0 H0 F (upd H l (.lst [])) ∧ HoldS G r F (upd H l (.lst [])) H0 W σ (τ.set i (some (.own (.dl (addDl (L.map fun x : Str × Addr × List D => (x.1, x.2.2)) s))))) ∧ StF F H F (upd H l (.lst [])) ∧
      ∃ kv, upd H l (.lst []) p = some (.dK kv) ∧ (Sum.inr s, V.ref a) ∈ kv) := by
  have plo : p ≠ l := fun z => by rw [z, hl] at b; cases b
  have kv_any : ((L.map fun x : Str × Addr × List D => (x.1, x.2.2)).any fun kv => decide (kv.1 = s)) = L.any fun x => decide (x.1 = s) := by rw [List.any_map]; rfl
  refine ⟨fun hv => ?_, fun v hv => ?_⟩
  · rcases valV_dl (L := L) (s := s) with ⟨h1, h2⟩ | ⟨a, ds, h1, _, _⟩
    · have hput : putK (L.map fun x : Str × Addr × List D => ((Sum.inr x.1 : Key), V.ref x.2.1)) (Sum.inr s) (.ref l) = (L ++ [(s, l, [])]).map fun x : Str × Addr × List D => ((Sum.inr x.1 : Key), V.ref x.2.1) := by
        unfold putK
        have : ((L.map fun x : Str × Addr × List D => ((Sum.inr x.1 : Key), V.ref x.2.1)).any fun kv => decide (kv.1 = Sum.inr s)) = false := by
          rw [List.any_map, ← h2]
          congr 1
          funext y
          simp
        rw [this]
        simp
      have hadd : addDl (L.map fun x : Str × Addr × List D => (x.1, x.2.2)) s = (L ++ [(s, l, [])]).map fun x : Str × Addr × List D => (x.1, x.2.2) := by
        unfold addDl
        rw [kv_any, h2]
        simp
      rw [hput, hadd]
      have ne_s : ∀ x ∈ L, x.1 ≠ s := fun x hx e => by
        have := List.any_eq_false.mp h2 x hx
        simp [e] at this
      have ne_l : ∀ x ∈ L, x.2.1 ≠ l := fun x hx e => by
        obtain ⟨_, _, vs, q, _⟩ := c x hx
        rw [e, hl] at q; cases q
      have keep : ∀ a u, H a = some u → ¬ W i a → upd (upd H l (.lst [])) p (.dK ((L ++ [(s, l, [])]).map fun x : Str × Addr × List D => ((Sum.inr x.1 : Key), V.ref x.2.1))) a = some u := fun a u h n => by
        rw [upd_ne (fun z => n (by rw [z]; exact hp)), upd_ne (ne_of_none h hl)]; exact h
      have cc := k.change (H' := upd (upd H l (.lst [])) p (.dK ((L ++ [(s, l, [])]).map fun x : Str × Addr × List D => ((Sum.inr x.1 : Key), V.ref x.2.1)))) (i := i) (A := fun a => W i a ∨ a = l) (p := p) (ob := .dl ((L ++ [(s, l, [])]).map fun x : Str × Addr × List D => (x.1, x.2.2))) o x keep
        (fun a h => ⟨h.imp id fun z => by rw [z]; exact hl, by
          by_cases e : a = p
          · exact ⟨_, by rw [e]; exact upd_same⟩
          · rw [upd_ne e]
            by_cases e2 : a = l
            · exact ⟨_, by rw [e2]; exact upd_same⟩
            · rw [upd_ne e2]
              obtain ⟨_, _, _, u, q⟩ := k.sep i a (h.resolve_right e2)
              exact ⟨u, q⟩⟩) (fun _ _ z => nomatch z) (.inl hp)
        ⟨L ++ [(s, l, [])], rfl, upd_same, by
          rw [List.map_append, List.nodup_append]
          refine ⟨n1, by simp, fun a ha b hb => ?_⟩
          simp only [List.map_cons, List.map_nil, List.mem_singleton] at hb
          subst hb
          obtain ⟨y, hy, rfl⟩ := List.mem_map.mp ha
          exact ne_l y hy, by
          rw [List.map_append, List.nodup_append]
          refine ⟨n2, by simp, fun a ha b hb => ?_⟩
          simp only [List.map_cons, List.map_nil, List.mem_singleton] at hb
          subst hb
          obtain ⟨y, hy, rfl⟩ := List.mem_map.mp ha
          exact ne_s y hy, fun y hy => by
          rcases List.mem_append.mp hy with hy | hy
          · obtain ⟨c1, c2, vs, c3, c4⟩ := c y hy
            refine ⟨.inl c1, c2, vs, by rw [upd_ne c2, upd_ne (ne_l y hy)]; exact c3, RepL.mono (fun _ z => z) (fun a f => .of fun u h => keep a u h fun z => (k.sep i a z).1 f) _ _ c4⟩
          · simp only [List.mem_singleton] at hy
            subst hy
            exact ⟨.inr rfl, Ne.symm plo, [], by rw [upd_ne (Ne.symm plo)]; exact upd_same, by simp only [RepL]⟩⟩
      rw [set_self hs] at cc
      exact ⟨_, cc.1, cc.2.1, cc.2.2.1, cc.2.2.2, _, upd_same, by simp⟩
    · rw [h1] at hv; cases hv
  · rcases valV_dl (L := L) (s := s) with ⟨h1, h2⟩ | ⟨a, ds, h1, h3, h2⟩
    · rw [h1] at hv; cases hv
    · rw [h1] at hv; cases hv
      have hadd : addDl (L.map fun x : Str × Addr × List D => (x.1, x.2.2)) s = L.map fun x : Str × Addr × List D => (x.1, x.2.2) := by
        unfold addDl
        rw [kv_any, h2]
        simp
      have nw := new_own (o := .lst []) o hl
      rw [hadd]
      have hset : τ.set i (some (.own (.dl (L.map fun x : Str × Addr × List D => (x.1, x.2.2))))) = τ := by
        apply List.ext_getElem?
        intro j
        by_cases e : i = j
        · subst e
          rw [List.getElem?_set_self (List.getElem?_eq_some_iff.mp hi).1, hi]
        · rw [List.getElem?_set_ne e]
      rw [hset]
      refine ⟨a, rfl, nw.1, x.trans o nw.2, k.ext o nw.2, nw.2.st o, _, by rw [upd_ne plo]; exact b, List.mem_map.mpr ⟨_, h3, rfl⟩⟩
/-- the append -/
theorem dl_app {r : Option Addr} {F F0 : Fz} {H : Hp} {H0 : Ht} {R : Sr} {W : Nat → Addr → Prop} {σ : L2.St} {τ : TauS} {a : Addr} {s : Str} {d : D} {v : V} {kvs : List (Str × List D)} (k : HoldS G r F H H0 W σ τ) (o : Ok1 r F H R) (x : Ext r F0 H0 F H) {p : Addr} {kv : List (Key × V)} (hs : σ[i]? = some (some (.ref p)))
    (hkv : H p = some (.dK kv)) (hm : (Sum.inr s, V.ref a) ∈ kv) (hi : τ[i]? = some (some (.own (.dl kvs)))) (rv : Rep G r F H d v) : ∃ vs : List V, H a = some (.lst vs) ∧ (∃ ds, (s, ds) ∈ kvs ∧ ds.length = vs.length) ∧ ∃ W', Ok1 r F (upd H a (.lst (vs ++ [v]))) R ∧ Ext r F0 H0 F (upd H a (.lst (vs ++ [v]))) ∧
      HoldS G r F (upd H a (.lst (vs ++ [v]))) H0 W' σ (τ.set i (some (.own (.dl (appDl kvs s d))))) ∧ StF F H F (upd H a (.lst (vs ++ [v]))) := by
  obtain ⟨v', hs', p', rfl, hp, L, rfl, b, n1, n2, c⟩ := k.at_ i _ hi
  rw [hs] at hs'
  cases hs'
  rw [hkv] at b
  cases b
  obtain ⟨y, hy, ey⟩ := List.mem_map.mp hm
  obtain ⟨y1, y2, y3⟩ := y
  have e1 : y1 = s := Sum.inr.inj (congrArg Prod.fst ey)
  have e2 : y2 = a := V.ref.inj (congrArg Prod.snd ey)
  subst e1; subst e2
  obtain ⟨c1, c2, vs, c3, c4⟩ := c _ hy
  have c1 : W i y2 := c1
  have c2 : y2 ≠ p := c2
  have c3 : H y2 = some (.lst vs) := c3
  refine ⟨vs, c3, ⟨y3, List.mem_map.mpr ⟨_, hy, rfl⟩, c4.length⟩, ?_⟩
  have keep : ∀ a u, H a = some u → ¬ W i a → upd H y2 (.lst (vs ++ [v])) a = some u := fun a u h n => by
    rw [upd_ne (fun z => n (by rw [z]; exact c1))]; exact h
  have kp : ∀ a, F a → Kp H (upd H y2 (.lst (vs ++ [v]))) a := fun a f => .of fun u h => keep a u h fun z => (k.sep i a z).1 f
  have cc := k.change (H' := upd H y2 (.lst (vs ++ [v]))) (i := i) (A := W i) (p := p) (ob := .dl (appDl (L.map fun x : Str × Addr × List D => (x.1, x.2.2)) y1 d)) o x keep
    (fun a h => ⟨.inl h, by
      by_cases e : a = y2
      · exact ⟨_, by rw [e]; exact upd_same⟩
      · rw [upd_ne e]
        obtain ⟨_, _, _, u, q⟩ := k.sep i a h
        exact ⟨u, q⟩⟩) (fun _ _ z => nomatch z) hp
    ⟨L.map fun x : Str × Addr × List D => if x.1 = y1 then (x.1, x.2.1, x.2.2 ++ [d]) else x, by
      unfold appDl
      rw [List.map_map, List.map_map]
      apply List.map_congr_left
      intro z hz
      simp only [Function.comp]
      split <;> rfl, by
      rw [upd_ne (Ne.symm c2), hkv, List.map_map]
      congr 2
      apply List.map_congr_left
      intro z hz
      simp only [Function.comp]
      split <;> rfl, by
      rw [List.map_map]
      have : L.map ((fun x : Str × Addr × List D => x.2.1) ∘ fun x => if x.1 = y1 then (x.1, x.2.1, x.2.2 ++ [d]) else x) = L.map (·.2.1) := by
        apply List.map_congr_left
        intro z hz
        simp only [Function.comp]
        split <;> rfl
      rw [this]; exact n1, by
      rw [List.map_map]
      have : L.map ((fun x : Str × Addr × List D => x.1) ∘ fun x => if x.1 = y1 then (x.1, x.2.1, x.2.2 ++ [d]) else x) = L.map (·.1) := by
        apply List.map_congr_left
        intro z hz
        simp only [Function.comp]
        split <;> rfl
      rw [this]; exact n2, fun z hz => by
      obtain ⟨z0, hz0, rfl⟩ := List.mem_map.mp hz
      obtain ⟨d1, d2, ws, d3, d4⟩ := c z0 hz0
      by_cases e : z0.1 = y1
      · have e2 := nodup_by n2 hz0 hy e
        subst e2
        have e3 : ws = vs := by
          have d3 : H y2 = some (.lst ws) := d3
          rw [c3] at d3; cases d3; rfl
        subst e3
        simp only [if_true]
        exact ⟨c1, c2, _, upd_same, (RepL.mono (fun _ z => z) kp _ _ d4).append (RepL.one (Rep.mono (fun _ z => z) kp _ _ rv))⟩
      · rw [if_neg e]
        refine ⟨d1, d2, ws, ?_, RepL.mono (fun _ z => z) kp _ _ d4⟩
        rw [upd_ne fun q => e (congrArg (fun y : Str × Addr × List D => y.1) (nodup_by n1 hz0 hy q))]
        exact d3⟩
  rw [set_self hs] at cc
  exact ⟨_, cc⟩
theorem dl_at {r : Option Addr} {F : Fz} {H : Hp} {H0 : Ht} {W : Nat → Addr → Prop} {σ : L2.St} {τ : TauS} {a : Addr} {s : Str} {kvs : List (Str × List D)} (k : HoldS G r F H H0 W σ τ) {p : Addr} {kv : List (Key × V)} (hs : σ[i]? = some (some (.ref p)))
    (hkv : H p = some (.dK kv)) (hm : (Sum.inr s, V.ref a) ∈ kv) (hi : τ[i]? = some (some (.own (.dl kvs)))) : ∃ vs : List V, H a = some (.lst vs) := by
  obtain ⟨v', hs', p', rfl, hp, L, rfl, b, n1, n2, c⟩ := k.at_ i _ hi
  rw [hs] at hs'
  cases hs'
  rw [hkv] at b
  cases b
  obtain ⟨y, hy, ey⟩ := List.mem_map.mp hm
  obtain ⟨_, _, vs, c3, _⟩ := c _ hy
  exact ⟨vs, by rw [← V.ref.inj (congrArg Prod.snd ey)]; exact c3⟩
theorem sp_dl (ho : PE X o (tVar i)) (hk : PE X kx tk) (hkv : EvS G tk ek) (he : PE X e te) (hv : EvS G te ev) (m : M2 X o "setdefault" apos kx (.List [] pos) cpos)
    (hbase : attributeBase (.Call (.Attribute o "setdefault" apos) [kx, .List [] pos] [] cpos) "append" X.env (eval (.Call (.Attribute o "setdefault" apos) [kx, .List [] pos] [] cpos) X.env) = eval (.Call (.Attribute o "setdefault" apos) [kx, .List [] pos] [] cpos) X.env := by rfl)
    (hfew : ((backTo cpos2 (starEach [e] X.env)).all (fun x => !x.1) && (backToKw cpos2 (keywordEach [] X.env)).all (fun x => x.1.isSome)
      && decide (([e] : List Expr).length + ([] : List Keyword).length + (if ([] : List Keyword).isEmpty then 0 else 1) < 30)) = true := by rfl)
    (hline : (apos2.endLine == cpos2.line) = true := by rfl) (hs : starEach [e] X.env = (false, eval e X.env) :: starEach [] X.env := by rfl) (hplain : (backTo cpos2 (starEach [] X.env)).any (·.1) = false := by rfl) {pos3 : Pos}
    (hsw : swapsWith (.Call (.Attribute (.Call (.Attribute o "setdefault" apos) [kx, .List [] pos] [] cpos) "append" apos2) [e] [] cpos2) none pos3.line X.env = pure false := by rfl) :
    PS X (.Expr (.Call (.Attribute (.Call (.Attribute o "setdefault" apos) [kx, .List [] pos] [] cpos) "append" apos2) [e] [] cpos2) pos3) (tSS G (mDl i ek ev)) :=
  PS.mono (ps_expr (pe_bm PySem.F.plainAttrs_list PySem.F.slot_list_append PySem.F.type_list_append mt_append (pe_dsetd ho hk (pe_lst pa_nil) m) (pa_cons he pa_nil hs) hbase hfew hline hs hplain) hsw) fun E σ H h => by
    obtain ⟨r, H0, F0, F, W, τ, R, x, o, k, q⟩ := h
    unfold mDl at q
    split at q
    · rename_i s R1 e1
      split at q
      · rename_i kvs hi
        split at q
        · rename_i d R2 e2
          split at q
          · rename_i hsz
            obtain ⟨v, hs, p, rfl, hp, L, rfl, b, n1, n2, c⟩ := k.at_ i _ hi
            refine ⟨.ref p, hs, p, rfl, .inl ⟨_, .inl b⟩, ?_⟩
            refine hkv r H0 F0 F W τ R _ R1 σ H _ x o k e1 fun v2 H2 F2 rv2 o2 x2 xx2 k2 => ⟨Nat.zero_le _, fun l hl => ?_⟩
            simp only [Rep] at rv2
            subst rv2
            obtain ⟨v', hs', p', rfl, hp', L', eL, b', n1', n2', c'⟩ := k2.at_ i _ hi
            rw [hs] at hs'
            cases hs'
            rw [eL] at hi e2 hsz q
            have hpl : p ≠ l := fun z => by rw [z, hl] at b'; cases b'
            obtain ⟨A1, A2⟩ := dl_set (s := s) k2 o2 x2 hs hp' b' n1' n2' c' hl hi
            have tail : ∀ (H3 : Hp) (W3 : Nat → Addr → Prop) (a : Addr), Ok1 r F2 H3 R1 → Ext r F0 H0 F2 H3 → HoldS G r F2 H3 H0 W3 σ (τ.set i (some (.own (.dl (addDl (L'.map fun x : Str × Addr × List D => (x.1, x.2.2)) s))))) → StF F2 H2 F2 H3 → (∃ kv, H3 p = some (.dK kv) ∧ (Sum.inr s, V.ref a) ∈ kv) →
                tyV X.K "list" (V.ref a) H3 ∧ te σ H3 fun v' H' => ∃ l xs y, V.ref a = .ref l ∧ [v'] = [y] ∧ H' l = some (.lst xs) ∧ xs.length < sizeLine ∧ E.nx σ (upd H' l (.lst (xs ++ [y]))) := by
              intro H3 W3 a o3 x3 k3 st3 hkv3
              obtain ⟨kv, g1, g2⟩ := hkv3
              have hi3 : (τ.set i (some (.own (.dl (addDl (L'.map fun x : Str × Addr × List D => (x.1, x.2.2)) s)))))[i]? = some (some (.own (.dl (addDl (L'.map fun x : Str × Addr × List D => (x.1, x.2.2)) s)))) := List.getElem?_set_self (List.getElem?_eq_some_iff.mp hi).1
              obtain ⟨ws, hws⟩ := dl_at k3 hs g1 g2 hi3
              refine ⟨.inl ⟨rfl, ws, SqL.of hws⟩, ?_⟩
              refine hv r H0 F0 F2 W3 _ R1 d R2 σ H3 _ x3 o3 k3 e2 fun v5 H5 F5 rv5 o5 x5 xx5 k5 => ?_
              have hp3 : r ≠ some p := (k2.sep i p hp).2.1
              obtain ⟨vs, f1, ⟨ds, f2, f3⟩, W6, f4, f5, f6, f7⟩ := dl_app k5 o5 x5 hs (xx5.same p _ g1 hp3) g2 hi3 rv5
              refine ⟨a, vs, v5, rfl, rfl, f1, ?_, ?_⟩
              · rw [← f3]
                obtain ⟨hs1, hs2⟩ := hsz
                have : ds.length ≤ 16000000 := by
                  unfold addDl at f2
                  split at f2
                  · have := List.all_eq_true.mp hs2 _ f2
                    simpa using this
                  · rcases List.mem_append.mp f2 with f2 | f2
                    · have := List.all_eq_true.mp hs2 _ f2
                      simpa using this
                    · simp only [List.mem_singleton] at f2
                      cases f2
                      exact Nat.zero_le _
                exact small_line this
              · rw [List.set_set] at f6
                exact q σ _ F5 W6 ((((xx2.st o).trans st3).trans (xx5.st o3)).trans f7) f5 f4 f6
            refine ⟨_, Sum.inr s, by rw [upd_ne hpl]; exact b', rfl, ?_, fun v hv => ?_, fun hv => ?_⟩
            · rw [List.length_map]
              have := hsz.1
              rw [List.length_map] at this
              exact small_line this
            · obtain ⟨a, rfl, h1, h2, h3, h4, h5⟩ := A2 v hv
              exact tail _ _ a h1 h2 h3 h4 h5
            · obtain ⟨W', h1, h2, h3, h4, h5⟩ := A1 hv
              exact tail _ _ l h1 h2 h3 h4 h5
          · exact q.elim
        · exact q.elim
      · exact q.elim
    · exact q.elim
end
end Nb
set_option Elab.async false
set_option linter.all false
set_option maxRecDepth 100000
namespace Nb
open PySem PySem.Spec PyProof.Rows L2 RZ
section
variable {G : Gx} {r : Option Addr} {F F' F0 : Fz} {H H' : Hp} {H0 : Ht} {R : Sr} {W : Nat → Addr → Prop} {σ : L2.St} {τ : TauS} {i : Nat}
theorem HoldS.freezeG (h : HoldS G r F H H0 W σ τ) (o : Ok1 r F H R) (x : Ext r F0 H0 F H) {d : D} {v : V} (hv : σ[i]? = some (some v)) (hr : Rep G r (fun a => F a ∨ W i a) H d v) :
    Ok1 r (fun a => F a ∨ W i a) H R ∧ Ext r F0 H0 (fun a => F a ∨ W i a) H ∧ HoldS G r (fun a => F a ∨ W i a) H H0 (setW W i fun _ => False) σ (τ.set i (some (.val d))) ∧ StF F H (fun a => F a ∨ W i a) H := by
  refine ⟨⟨fun a k => ?_, ?_⟩, ⟨fun a k => .inl (x.mono a k), x.same, fun a k => ?_⟩, ⟨?_, fun j s e => ?_, fun j a w => ?_, fun j k a w1 w2 => ?_, fun j c ds e => ?_⟩, ⟨fun a k => .inl k, fun a _ => .of fun _ z => z, fun _ _ _ _ h => h⟩⟩
  · rcases k with k | k
    · exact o.fz a k
    · exact (h.sep i a k).2.2.2
  · have s := o.sr
    cases R with
    | none => exact s
    | some ns =>
      obtain ⟨b, e1, e2, e3⟩ := s
      exact ⟨b, e1, e2, fun k => k.elim e3 fun w => (h.sep i b w).2.1 e1⟩
  · rcases k with k | k
    · exact x.new a k
    · exact .inr (h.sep i a k).2.2.1
  · rw [List.length_set]; exact h.len
  · have mo : ∀ a, F a → (F a ∨ W i a) := fun a k => .inl k
    have kp : ∀ a, F a → Kp H H a := fun a _ => .of fun _ z => z
    by_cases hj : i = j
    · subst hj
      have hl : i < τ.length := by
        have := (List.getElem?_eq_some_iff.mp e).1
        rw [List.length_set] at this
        exact this
      rw [List.getElem?_set_self hl] at e
      cases e
      exact ⟨v, hv, hr⟩
    · rw [List.getElem?_set_ne hj] at e
      obtain ⟨v, a, b⟩ := h.at_ j s e
      refine ⟨v, a, ?_⟩
      rw [setW_ne (Ne.symm hj)]
      cases s with
      | val d => exact Rep.mono mo kp _ _ b
      | own ob' =>
        obtain ⟨p', rfl, hp', b⟩ := b
        exact ⟨p', rfl, hp', b.mono hp' mo kp (fun _ _ _ z => z) fun _ z => z⟩
  · by_cases hj : j = i
    · subst hj; rw [setW_same] at w; exact w.elim
    · rw [setW_ne hj] at w
      obtain ⟨t1, t2, t3, t4⟩ := h.sep j a w
      exact ⟨fun k => k.elim t1 fun z => hj (h.dis j i a w z), t2, t3, t4⟩
  · by_cases hj : j = i
    · subst hj; rw [setW_same] at w1; exact w1.elim
    · by_cases hk : k = i
      · subst hk; rw [setW_same] at w2; exact w2.elim
      · rw [setW_ne hj] at w1; rw [setW_ne hk] at w2; exact h.dis j k a w1 w2
  · by_cases hj : i = j
    · subst hj
      have hl : i < τ.length := by
        have := (List.getElem?_eq_some_iff.mp e).1
        rw [List.length_set] at this
        exact this
      rw [List.getElem?_set_self hl] at e
      cases e
    · rw [List.getElem?_set_ne hj] at e
      exact h.me j c ds e
end
def dlD (kvs : List (Str × List D)) : List (Key × D) := kvs.map fun kv => (Sum.inr kv.1, .lst kv.2)
def mFrzDl (i : Nat) (m : MS) : MS := fun τ R => match τ[i]? with | some (some (.own (.dl kvs))) => m (τ.set i (some (.val (.dct (dlD kvs))))) R | _ => .stuck
section
variable {X : Cx} {G : Gx} {st : Stmt} {rest : List Stmt} {m : MS} {i : Nat}
theorem repK_dl {r : Option Addr} {F F' : Fz} {H : Hp} {A : Addr → Prop} {p : Addr} (m : ∀ a, F a → F' a) (mA : ∀ a, A a → F' a) : ∀ {L : List (Str × Addr × List D)}, (∀ x ∈ L, A x.2.1 ∧ x.2.1 ≠ p ∧ ∃ vs, H x.2.1 = some (.lst vs) ∧ RepL G r F H x.2.2 vs) → RepK G r F' H (dlD (L.map fun x => (x.1, x.2.2))) (L.map fun x => (Sum.inr x.1, V.ref x.2.1))
  | [], _ => by simp [dlD, RepK]
  | y :: L, h => by
    obtain ⟨h1, _, vs, h2, h3⟩ := h y List.mem_cons_self
    have ih := repK_dl (p := p) m mA (L := L) fun x hx => h x (List.mem_cons_of_mem _ hx)
    simp only [dlD, List.map_cons, RepK] at ih ⊢
    refine ⟨_, _, rfl, ?_, ih⟩
    simp only [Rep]
    exact ⟨_, vs, rfl, ⟨mA _ h1, h2⟩, RepL.mono m (fun a _ => .of fun _ z => z) _ _ h3⟩
theorem frzDl_ok {E : Ends} {σ : L2.St} {H : Hp} (h : tSS G (mFrzDl i m) E σ H) : tSS G m E σ H := by
  obtain ⟨r, H0, F0, F, W, τ, R, x, o, k, q⟩ := h
  unfold mFrzDl at q
  split at q
  · rename_i kvs hi
    obtain ⟨v, hs, p, rfl, hp, L, rfl, b, n1, n2, c⟩ := k.at_ i _ hi
    have hr : Rep G r (fun a => F a ∨ W i a) H (.dct (dlD (L.map fun x => (x.1, x.2.2)))) (.ref p) := by
      simp only [Rep]
      exact ⟨p, _, rfl, .inr hp, .of b, repK_dl (fun _ z => .inl z) (fun _ z => .inr z) c⟩
    obtain ⟨o', x', k', z⟩ := k.freezeG o x hs hr
    exact ⟨r, H0, F0, _, _, _, R, x', o', k', q.st z⟩
  · exact q.elim
theorem ss_frzDl (h : PSs X rest (tSS G m)) : PSs X rest (tSS G (mFrzDl i m)) := PSs.mono h fun D σ H q => frzDl_ok q
end
/-! ### the list of draws -/
mutual
def noSrc : D → Bool
  | .lst ds => noSrcL ds
  | .tup ds => noSrcL ds
  | .dct kvs => noSrcK kvs
  | .ins _ ds => noSrcL ds
  | .exn _ ds => noSrcL ds
  | .src => false
  | _ => true
def noSrcL : List D → Bool
  | [] => true
  | d :: ds => noSrc d && noSrcL ds
def noSrcK : List (Key × D) → Bool
  | [] => true
  | kv :: ds => noSrc kv.2 && noSrcK ds
end
section
variable {G : Gx} {r r' : Option Addr} {F : Fz} {H : Hp}
mutual
theorem rep_src : ∀ {d : D} {v : V}, noSrc d = true → Rep G r F H d v → Rep G r' F H d v
  | .non, v, _, h => by simpa only [Rep] using h
  | .bl b, v, _, h => by simpa only [Rep] using h
  | .int i, v, _, h => by simpa only [Rep] using h
  | .str s, v, _, h => by simpa only [Rep] using h
  | .lst ds, v, n, h => by
    simp only [Rep] at h ⊢
    obtain ⟨a, vs, e, l, q⟩ := h
    exact ⟨a, vs, e, l, repL_src (by simpa only [noSrc] using n) q⟩
  | .tup ds, v, n, h => by
    simp only [Rep] at h ⊢
    obtain ⟨a, vs, e, l, q⟩ := h
    exact ⟨a, vs, e, l, repL_src (by simpa only [noSrc] using n) q⟩
  | .dct kvs, v, n, h => by
    simp only [Rep] at h ⊢
    obtain ⟨a, vs, e, f, l, q⟩ := h
    exact ⟨a, vs, e, f, l, repK_src (by simpa only [noSrc] using n) q⟩
  | .ins c ds, v, n, h => by
    simp only [Rep] at h ⊢
    obtain ⟨a, dx, vs, e, f, fd, l, z, q⟩ := h
    exact ⟨a, dx, vs, e, f, fd, l, z, repL_src (by simpa only [noSrc] using n) q⟩
  | .scr ns, v, _, h => by simpa only [Rep] using h
  | .src, v, n, h => by simp [noSrc] at n
  | .ty n, v, _, h => by simpa only [Rep] using h
  | .cls c, v, _, h => by simpa only [Rep] using h
  | .exn c ds, v, n, h => by
    simp only [Rep] at h ⊢
    obtain ⟨a, vs, e, l, q⟩ := h
    exact ⟨a, vs, e, l, repL_src (by simpa only [noSrc] using n) q⟩
theorem repL_src : ∀ {ds : List D} {vs : List V}, noSrcL ds = true → RepL G r F H ds vs → RepL G r' F H ds vs
  | [], vs, _, h => by simpa only [RepL] using h
  | d :: ds, vs, n, h => by
    simp only [noSrcL, Bool.and_eq_true] at n
    simp only [RepL] at h ⊢
    obtain ⟨w, ws, e, a, b⟩ := h
    exact ⟨w, ws, e, rep_src n.1 a, repL_src n.2 b⟩
theorem repK_src : ∀ {ds : List (Key × D)} {vs : List (Key × V)}, noSrcK ds = true → RepK G r F H ds vs → RepK G r' F H ds vs
  | [], vs, _, h => by simpa only [RepK] using h
  | (k, d) :: ds, vs, n, h => by
    simp only [noSrcK, Bool.and_eq_true] at n
    simp only [RepK] at h ⊢
    obtain ⟨w, ws, e, a, b⟩ := h
    exact ⟨w, ws, e, rep_src n.1 a, repK_src n.2 b⟩
end
mutual
theorem rep_some {a : Addr} : ∀ {d : D} {v : V}, Rep G none F H d v → noSrc d = true
  | .non, v, h => rfl
  | .bl b, v, h => rfl
  | .int i, v, h => rfl
  | .str s, v, h => rfl
  | .lst ds, v, h => by
    simp only [Rep] at h
    obtain ⟨a', vs, e, l, q⟩ := h
    simp only [noSrc]; exact repL_some (a := a) q
  | .tup ds, v, h => by
    simp only [Rep] at h
    obtain ⟨a', vs, e, l, q⟩ := h
    simp only [noSrc]; exact repL_some (a := a) q
  | .dct kvs, v, h => by
    simp only [Rep] at h
    obtain ⟨a', vs, e, f, l, q⟩ := h
    simp only [noSrc]; exact repK_some (a := a) q
  | .ins c ds, v, h => by
    simp only [Rep] at h
    obtain ⟨a', dx, vs, e, f, fd, l, z, q⟩ := h
    simp only [noSrc]; exact repL_some (a := a) q
  | .scr ns, v, h => rfl
  | .src, v, h => by simp only [Rep] at h; obtain ⟨a, e, _⟩ := h; cases e
  | .ty n, v, h => rfl
  | .cls c, v, h => rfl
  | .exn c ds, v, h => by
    simp only [Rep] at h
    obtain ⟨a', vs, e, l, q⟩ := h
    simp only [noSrc]; exact repL_some (a := a) q
theorem repL_some {a : Addr} : ∀ {ds : List D} {vs : List V}, RepL G none F H ds vs → noSrcL ds = true
  | [], vs, h => rfl
  | d :: ds, vs, h => by
    simp only [RepL] at h
    obtain ⟨w, ws, e, a', b⟩ := h
    simp only [noSrcL, Bool.and_eq_true]
    exact ⟨rep_some (a := a) a', repL_some (a := a) b⟩
theorem repK_some {a : Addr} : ∀ {ds : List (Key × D)} {vs : List (Key × V)}, RepK G none F H ds vs → noSrcK ds = true
  | [], vs, h => rfl
  | (k, d) :: ds, vs, h => by
    simp only [RepK] at h
    obtain ⟨w, ws, e, a', b⟩ := h
    simp only [noSrcK, Bool.and_eq_true]
    exact ⟨rep_some (a := a) a', repK_some (a := a) b⟩
end
end
end Nb
set_option Elab.async false
set_option linter.all false
set_option maxRecDepth 100000
namespace Nb
open PySem PySem.Spec PyProof.Rows L2 RZ
def noSrcD : List (Str × List D) → Bool
  | [] => true
  | kv :: r => noSrcL kv.2 && noSrcD r
def noSrcS : Sv → Bool
  | .val d => noSrc d
  | .own (.lst ds) => noSrcL ds
  | .own (.dct kvs) => noSrcK kvs
  | .own (.dl kvs) => noSrcD kvs
  | .own (.obj _ ds) => noSrcL ds
def wipeS (τ : TauS) : TauS := τ.map fun s => match s with | some s => if noSrcS s then some s else none | none => none
def outSrc : Out → Out
  | .nx τ (some _) => .nx (wipeS τ) none
  | .bk τ (some _) => .bk (wipeS τ) none
  | .ct τ (some _) => .ct (wipeS τ) none
  | .rt d (some _) => if noSrc d then .rt d none else .stuck
  | .ro ob (some _) => if noSrcS (.own ob) then .ro ob none else .stuck
  | _ => .stuck
def intsD : List D → Option (List Int)
  | [] => some []
  | .int n :: r => (intsD r).map (n :: ·)
  | _ => none
def mSrc (i : Nat) (m : MS) : MS := fun τ R => match R, τ[i]? with
  | none, some (some (.own (.lst ds))) => match intsD ds with
    | some ns => outSrc (m (τ.set i (some (.val .src))) (some ns))
    | none => .stuck
  | _, _ => .stuck
section
variable {G : Gx} {r r' : Option Addr} {F F0 : Fz} {H : Hp} {H0 : Ht} {A : Addr → Prop} {p : Addr} {ob : Own} {W : Nat → Addr → Prop} {σ : L2.St} {τ : TauS}
theorem noSrcD_mem : ∀ {L : List (Str × Addr × List D)}, (∀ x ∈ L, noSrcL x.2.2 = true) → noSrcD (L.map fun x => (x.1, x.2.2)) = true
  | [], _ => rfl
  | y :: L, h => by
    simp only [List.map_cons, noSrcD, Bool.and_eq_true]
    exact ⟨h y List.mem_cons_self, noSrcD_mem fun x hx => h x (List.mem_cons_of_mem _ hx)⟩
theorem mem_noSrcD : ∀ {L : List (Str × Addr × List D)}, noSrcD (L.map fun x => (x.1, x.2.2)) = true → ∀ x ∈ L, noSrcL x.2.2 = true
  | [], _, x, hx => nomatch hx
  | y :: L, h, x, hx => by
    simp only [List.map_cons, noSrcD, Bool.and_eq_true] at h
    rcases List.mem_cons.mp hx with rfl | hx
    · exact h.1
    · exact mem_noSrcD h.2 x hx
theorem own_nosrc (ow : OwnAt G none F H A p ob) : noSrcS (.own ob) = true := by
  cases ob with
  | lst ds => obtain ⟨vs, a, b⟩ := ow; exact repL_some (a := 0) b
  | dct ds => obtain ⟨vs, a, b⟩ := ow; exact repK_some (a := 0) b
  | obj c ds => obtain ⟨dx, vs, _, _, _, _, b, _⟩ := ow; exact repL_some (a := 0) b
  | dl kvs =>
    obtain ⟨L, rfl, b, n1, n2, c⟩ := ow
    exact noSrcD_mem fun x hx => by obtain ⟨_, _, vs, _, q⟩ := c x hx; exact repL_some (a := 0) q
theorem own_src (n : noSrcS (.own ob) = true) (ow : OwnAt G r F H A p ob) : OwnAt G r' F H A p ob := by
  cases ob with
  | lst ds => obtain ⟨vs, a, b⟩ := ow; exact ⟨vs, a, repL_src n b⟩
  | dct ds => obtain ⟨vs, a, b⟩ := ow; exact ⟨vs, a, repK_src n b⟩
  | obj c ds => obtain ⟨dx, vs, a1, a2, a3, a4, b, a5⟩ := ow; exact ⟨dx, vs, a1, a2, a3, a4, repL_src n b, a5⟩
  | dl kvs =>
    obtain ⟨L, rfl, b, n1, n2, c⟩ := ow
    exact ⟨L, rfl, b, n1, n2, fun x hx => by obtain ⟨c1, c2, vs, c3, q⟩ := c x hx; exact ⟨c1, c2, vs, c3, repL_src (mem_noSrcD n x hx) q⟩⟩
theorem sv_nosrc {s : Sv} {v : V} (h : SvAt G none F H A s v) : noSrcS s = true := by
  cases s with
  | val d => exact rep_some (a := 0) h
  | own o => obtain ⟨p, rfl, _, ow⟩ := h; exact own_nosrc ow
theorem sv_src {s : Sv} {v : V} (n : noSrcS s = true) (h : SvAt G r F H A s v) : SvAt G r' F H A s v := by
  cases s with
  | val d => exact rep_src n h
  | own o => obtain ⟨p, rfl, hp, ow⟩ := h; exact ⟨p, rfl, hp, own_src n ow⟩
theorem wipeS_get {i : Nat} {s : Sv} (h : (wipeS τ)[i]? = some (some s)) : τ[i]? = some (some s) ∧ noSrcS s = true := by
  unfold wipeS at h
  rw [List.getElem?_map] at h
  cases e : τ[i]? with
  | none => rw [e] at h; cases h
  | some o =>
    rw [e] at h
    cases o with
    | none => cases h
    | some s' =>
      have h : (if noSrcS s' then some s' else none) = some s := Option.some.inj h
      split at h
      · cases h; exact ⟨rfl, ‹_›⟩
      · cases h
theorem hold_nosrc (k : HoldS G (some p) F H H0 W σ τ) : HoldS G none F H H0 W σ (wipeS τ) where
  len := by unfold wipeS; rw [List.length_map]; exact k.len
  at_ := fun i s h => by
    obtain ⟨h1, h2⟩ := wipeS_get h
    obtain ⟨v, a, b⟩ := k.at_ i s h1
    exact ⟨v, a, sv_src h2 b⟩
  sep := fun i a w => by
    obtain ⟨h1, h2, h3⟩ := k.sep i a w
    exact ⟨h1, (fun z => nomatch z), h3⟩
  dis := k.dis
  me := fun i c ds h => k.me i c ds (wipeS_get h).1
theorem ext_nosrc {F' : Fz} {H1 H' : Hp} (n : H1 p = none) (x : Ext (some p) F0 H1 F' H') : Ext none F0 H1 F' H' := ⟨x.mono, fun a u q _ => x.same a u q fun z => (by cases z; rw [n] at q; cases q), x.new⟩
theorem ok_nosrc {R : Sr} (o : Ok1 (some p) F H R) : Ok1 none F H none := ⟨o.fz, rfl⟩
theorem out_src {E : Ends} {out : Out} (n : H0 p = none) (q : OutOk G none H0 F0 F H E (outSrc out)) : OutOk G (some p) H0 F0 F H E out := by
  have cont : ∀ (P : L2.St → Hp → Prop) τ' (R' : Sr), (∀ σ' H' F' W', StF F H F' H' → Ext none F0 H0 F' H' → Ok1 none F' H' none → HoldS G none F' H' H0 W' σ' (wipeS τ') → P σ' H') →
      ∀ σ' H' F' W', StF F H F' H' → Ext (some p) F0 H0 F' H' → Ok1 (some p) F' H' R' → HoldS G (some p) F' H' H0 W' σ' τ' → P σ' H' :=
    fun P τ' R' q σ' H' F' W' st x' o' k' => q σ' H' F' W' st (ext_nosrc n x') (ok_nosrc o') (hold_nosrc k')
  cases out with
  | stuck => exact q
  | nx τ' R' => cases R' with
    | none => exact q.elim
    | some _ => exact cont _ τ' _ q
  | bk τ' R' => cases R' with
    | none => exact q.elim
    | some _ => exact cont _ τ' _ q
  | ct τ' R' => cases R' with
    | none => exact q.elim
    | some _ => exact cont _ τ' _ q
  | rt d R' => cases R' with
    | none => exact q.elim
    | some ns =>
      have q : OutOk G none H0 F0 F H E (if noSrc d then .rt d none else .stuck) := q
      split at q
      · rename_i hn
        exact fun v H' F' st rv x' o' => q v H' F' st (rep_src hn rv) (ext_nosrc n x') (ok_nosrc o')
      · exact q.elim
  | ro ob R' => cases R' with
    | none => exact q.elim
    | some ns =>
      have q : OutOk G none H0 F0 F H E (if noSrcS (.own ob) then .ro ob none else .stuck) := q
      split at q
      · rename_i hn
        exact fun b H' F' st n0 nF nr ow x' o' => q b H' F' st n0 nF (fun z => nomatch z) (own_src hn ow) (ext_nosrc n x') (ok_nosrc o')
      · exact q.elim
theorem ints_rep : ∀ {ds : List D} {ns : List Int} {vs : List V}, RepL G r F H ds vs → intsD ds = some ns → vs = ns.map V.int
  | [], ns, vs, h, e => by simp only [RepL] at h; simp only [intsD, Option.some.injEq] at e; subst h; subst e; rfl
  | d :: ds, ns, vs, h, e => by
    cases d <;> simp only [intsD] at e <;> try (cases e)
    rename_i b
    simp only [RepL] at h
    obtain ⟨w, ws, rfl, a, h'⟩ := h
    cases q : intsD ds with
    | none => rw [q] at e; cases e
    | some bs' =>
      rw [q] at e; cases e
      simp only [Rep] at a
      rw [a, ints_rep h' q]; rfl
end
section
variable {X : Cx} {G : Gx} {rest : List Stmt} {m : MS} {i : Nat}
theorem src_ok {E : Ends} {σ : L2.St} {H : Hp} (h : tSS G (mSrc i m) E σ H) : tSS G m E σ H := by
  obtain ⟨r, H0, F0, F, W, τ, R, x, o, k, q⟩ := h
  unfold mSrc at q
  split at q
  · rename_i ds hi
    split at q
    · rename_i ns hn
      have er : r = none := o.sr
      subst er
      obtain ⟨v, hs, p, rfl, hp, vs, a, b⟩ := k.at_ i _ hi
      have := ints_rep b hn
      subst this
      obtain ⟨s1, s2, s3, s4⟩ := k.sep i p hp
      refine ⟨some p, H0, F0, F, setW W i (fun _ => False), _, some ns, ⟨x.mono, fun a u q _ => x.same a u q (fun z => nomatch z), x.new⟩, ⟨o.fz, p, rfl, a, s1⟩, ⟨?_, fun j s e => ?_, fun j a w => ?_, fun j l a w1 w2 => ?_, fun j c ds' e => ?_⟩, out_src s3 q⟩
      · rw [List.length_set]; exact k.len
      · by_cases hj : i = j
        · subst hj
          rw [List.getElem?_set_self (List.getElem?_eq_some_iff.mp hi).1] at e
          cases e
          refine ⟨_, hs, ?_⟩
          show Rep G (some p) F H .src _
          simp only [Rep]
          exact ⟨p, rfl, rfl⟩
        · rw [List.getElem?_set_ne hj] at e
          obtain ⟨v, a, b⟩ := k.at_ j s e
          rw [setW_ne (Ne.symm hj)]
          exact ⟨v, a, sv_src (sv_nosrc b) b⟩
      · by_cases hj : j = i
        · subst hj; rw [setW_same] at w; exact w.elim
        · rw [setW_ne hj] at w
          obtain ⟨t1, t2, t3⟩ := k.sep j a w
          refine ⟨t1, fun z => ?_, t3⟩
          cases z
          exact hj (k.dis j i p w hp)
      · by_cases hj : j = i
        · subst hj; rw [setW_same] at w1; exact w1.elim
        · by_cases hk : l = i
          · subst hk; rw [setW_same] at w2; exact w2.elim
          · rw [setW_ne hj] at w1; rw [setW_ne hk] at w2; exact k.dis j l a w1 w2
      · by_cases hj : i = j
        · subst hj
          rw [List.getElem?_set_self (List.getElem?_eq_some_iff.mp hi).1] at e
          cases e
        · rw [List.getElem?_set_ne hj] at e
          exact k.me j c ds' e
    · exact q.elim
  · exact q.elim
theorem ss_src (h : PSs X rest (tSS G m)) : PSs X rest (tSS G (mSrc i m)) := PSs.mono h fun D σ H q => src_ok q
end
/-! reads, writes -/
def mSrcGet (i : Nat) (k : Int) : ME := fun τ R => match τ[i]?.join, R with
  | some .src, some ns => (L2.atI ns k).map fun n => (.int n, some ns)
  | _, _ => none
def mSrcSet (i : Nat) (k : Int) (ev : TauS → M D) : MS := fun τ R => match ev τ R with
  | some (.int n, some ns) => match τ[i]?, ixN ns.length k with
    | some (some (.val .src)), some j => .nx τ (some (ns.set j n))
    | _, _ => .stuck
  | _ => .stuck
section
variable {X : Cx} {G : Gx} {a b e : Expr} {te : TE} {ev : TauS → M D} {pos pos' : Pos} {i : Nat} {k : Int}
theorem se_src (hK : X.K = G.K) (ha : PE X a (tVar i)) (hb : PE X b (tC (.int k))) (hs : PlainIx b := by intro _ _; rfl) : PE X (.Subscript a b pos) (tE G (mSrcGet i k)) :=
  PE.mono (pe_ix ix_seq ha hb hs) fun σ H Q h => by
    obtain ⟨r, F, τ, R, d, R', ht, o, e, q⟩ := h
    unfold mSrcGet at e
    split at e
    · rename_i ns h1
      cases h2 : L2.atI ns k with
      | none => rw [h2] at e; cases e
      | some n =>
        rw [h2] at e
        cases e
        have h1' : τ[i]? = some (some .src) := by
          cases h : τ[i]? with
          | none => rw [h] at h1; cases h1
          | some o => rw [h] at h1; exact congrArg some h1
        obtain ⟨v, h3, h4⟩ := ht.2 i _ h1'
        simp only [Rep] at h4
        obtain ⟨p, rfl, rfl⟩ := h4
        obtain ⟨p', e1, e2, e3⟩ := o.sr
        cases e1
        exact ⟨_, h3, .inl ⟨p, _, k, .int n, rfl, rfl, SqL.of e2, by rw [atI_map, h2]; rfl, q _ H F (by simp only [Rep]) o .refl⟩⟩
    · cases e
theorem sp_srcset (ha : PE X a (tVar i)) (hb : PE X b (tC (.int k))) (he : PE X e te) (hv : EvS G te ev) (hs : swapsWithSole [.Subscript a b pos'] e pos.line X.env = pure false := by rfl) (hw : swappedStores [.Subscript a b pos'] e X.env = pure none := by rfl)
    (h1 : (assignEach [.Subscript a b pos'] X.env).map (·.2) = [assign (.Subscript a b pos') X.env] := by rfl)
    (hsub : ∀ v, assign (.Subscript a b pos') X.env v = (do
      let ov ← holding [v] (eval a X.env)
      let iv ← holding [v, ov] (eval b X.env)
      standAt pos'
      holding [v, ov, iv] (setItem ov iv v)
      release [v, ov, iv] []) := by intro _; rfl) : PS X (.Assign [.Subscript a b pos'] e pos) (tSS G (mSrcSet i k ev)) :=
  PS.mono (ps_asg he (pg_sub ha hb set_list hsub) hs hw h1) fun E σ H h => by
    obtain ⟨r, H0, F0, F, W, τ, R, x, o, kk, q⟩ := h
    unfold mSrcSet at q
    split at q
    · rename_i n ns e1
      split at q
      · rename_i j h1 h2
        refine hv r H0 F0 F W τ R _ _ σ H _ x o kk e1 fun v H1 F1 rv o1 x1 xx k1 => ?_
        obtain ⟨v', hs, h4⟩ := k1.at_ i _ h1
        have h4 : Rep G r F1 H1 .src v' := h4
        simp only [Rep] at h4 rv
        obtain ⟨p, rfl, rfl⟩ := h4
        subst rv
        obtain ⟨p', e4, e2, e3⟩ := o1.sr
        cases e4
        have keep : ∀ a u, H1 a = some u → a ≠ p → upd H1 p (.lst ((ns.map V.int).set j (.int n))) a = some u := fun a u h n => by rw [upd_ne n]; exact h
        have st : StF F1 H1 F1 (upd H1 p (.lst ((ns.map V.int).set j (.int n)))) := ⟨fun _ z => z, fun a f => .of fun u h => keep a u h fun z => e3 (by rw [← z]; exact f), fun a od u f h => keep a _ h fun z => e3 (by rw [← z]; exact f)⟩
        refine ⟨_, hs, p, _, k, j, rfl, rfl, e2, by rw [List.length_map]; exact h2, ?_⟩
        refine q σ _ F1 W ((xx.st o).trans st) ⟨x1.mono, fun a u h nr => ?_, x1.new⟩ ⟨fun a f => ?_, p, rfl, ?_, e3⟩ (hold_heap k1 (fun _ z => z) st.2.1 (fun i' a w u h => keep a u h fun z => (k1.sep i' a w).2.1 (by rw [z])) (fun _ z => z) fun i' a w => (k1.sep i' a w).1)
        · exact keep a u (x1.same a u h nr) fun z => nr (by rw [z])
        · obtain ⟨u, h⟩ := o1.fz a f
          exact ⟨u, keep a u h fun z => e3 (by rw [← z]; exact f)⟩
        · rw [upd_same, List.map_set]
      · exact q.elim
    · exact q.elim
end
end Nb
set_option Elab.async false
set_option linter.all false
set_option maxRecDepth 100000
namespace Nb
open PySem PySem.Spec PyProof.Rows L2 RZ
/-! ### the law's end -/
theorem law_sp {G : Gx} {H : Hp} {a : Addr} {ns : List Int} {mf : List D → M D} {R' : Sr} {E : XK} (hS : SqL G.K H a (ns.map V.int)) (h : mf [.scr ns] none = some (.bl true, R')) : spM G 1 mf [.ref a] H (fun v _ => v = .bl true) E := by
  rcases hS with l | l
  · refine ⟨none, fun b => b = a, [.scr ns], none, _, R', ?_, ⟨fun b hb => ?_, rfl⟩, rfl, h, fun v H' F' rv _ _ => by simpa only [Rep] using rv⟩
    · simp only [RepL, Rep]
      exact ⟨_, _, rfl, ⟨a, rfl, .inl ⟨rfl, l⟩⟩, rfl⟩
    · rw [hb]
      rcases l with l | ⟨o, l⟩
      · exact ⟨_, l⟩
      · exact ⟨_, l⟩
  · refine ⟨none, fun _ => False, [.scr ns], none, _, R', ?_, ⟨fun b hb => hb.elim, rfl⟩, rfl, h, fun v H' F' rv _ _ => by simpa only [Rep] using rv⟩
    simp only [RepL, Rep]
    exact ⟨_, _, rfl, ⟨a, rfl, .inr l⟩, rfl⟩
theorem hu64 {A : Around} {k : Nat} (hr : Room k A) : A.units + 64 < cLine := by have := hr.un; omega
/-! ### x, y = e1, e2 -/
/-- an expression's result, shared or this def's own -/
def EvR (G : Gx) (te : TE) (ev : TauS → M Sv) : Prop := ∀ r (H0 : Ht) F0 F W τ R s R' (σ : L2.St) H (Q : VK), Ext r F0 H0 F H → Ok1 r F H R → HoldS G r F H H0 W σ τ → ev τ R = some (s, R') →
  (∀ v H1 F1 A, SvAt G r F1 H1 A s v → (∀ a, A a → H a = none ∧ ¬ F1 a ∧ ∃ u, H1 a = some u) → (∀ c ds, s ≠ .own (.obj c ds)) → Ok1 r F1 H1 R' → Ext r F H F1 H1 → Q v H1) → te σ H Q
def evRv (ev : TauS → M D) : TauS → M Sv := fun τ => do let d ← ev τ; pure (.val d)
def evRo (ev : TauS → M Own) : TauS → M Sv := fun τ => do let d ← ev τ; pure (.own d)
section
variable {G : Gx} {te : TE}
theorem evRv_ok {ev : TauS → M D} (h : EvS G te ev) : EvR G te (evRv ev) := fun r H0 F0 F W τ R s R' σ H Q x o k e q => by
  obtain ⟨d, R1, e1, e2⟩ := M.bind_some e
  cases e2
  exact h r H0 F0 F W τ R d _ σ H Q x o k e1 fun v H1 F1 rv o1 _ x1 _ => q v H1 F1 (fun _ => False) rv (fun _ z => z.elim) (fun _ _ z => nomatch z) o1 x1
theorem evRo_ok {ev : TauS → M Own} (h : EvP G te ev) : EvR G te (evRo ev) := fun r H0 F0 F W τ R s R' σ H Q x o k e q => by
  obtain ⟨d, R1, e1, e2⟩ := M.bind_some e
  cases e2
  exact h r H0 F0 F W τ R d _ σ H Q x o k e1 fun p H1 F1 np nF ow o1 x1 => q (.ref p) H1 F1 (fun a => a = p) ⟨p, rfl, rfl, ow⟩ (fun a z => by subst z; exact ⟨np, nF, ownAt_some ow⟩) (fun c ds z => notObj (fun _ z => z) ow c ds (Sv.own.inj z)) o1 x1
end
section
variable {G : Gx} {r : Option Addr} {F F' F0 : Fz} {H H' : Hp} {H0 : Ht} {R : Sr} {W : Nat → Addr → Prop} {σ : L2.St} {τ : TauS} {i : Nat} {A : Addr → Prop}
theorem SvAt.mono {s : Sv} {v : V} (h : SvAt G r F H A s v) (m : ∀ a, F a → F' a) (k : ∀ a, F a → Kp H H' a) (ke : ∀ a, A a → ∀ u, H a = some u → H' a = some u) : SvAt G r F' H' A s v := by
  cases s with
  | val d => exact Rep.mono m k _ _ h
  | own ob => obtain ⟨p, rfl, hp, ow⟩ := h; exact ⟨p, rfl, hp, ow.mono hp m k ke fun _ z => z⟩
/-- slot i takes what has been made -/
theorem HoldS.adoptR (h : HoldS G r F H H0 W σ τ) {s : Sv} {v : V} (hs : SvAt G r F H A s v) (hA : ∀ a, A a → ¬ F a ∧ r ≠ some a ∧ H0 a = none ∧ (∀ j, ¬ W j a) ∧ ∃ u, H a = some u) (hob : ∀ c ds, s ≠ .own (.obj c ds)) :
    HoldS G r F H H0 (setW W i A) (σ.set i (some v)) (τ.set i (some s)) where
  len := by rw [List.length_set, List.length_set]; exact h.len
  at_ := fun j s' e => by
    by_cases hj : i = j
    · subst hj
      have hl : i < τ.length := by
        have := (List.getElem?_eq_some_iff.mp e).1
        rw [List.length_set] at this
        exact this
      rw [List.getElem?_set_self hl] at e
      cases e
      refine ⟨v, List.getElem?_set_self (by rw [h.len]; exact hl), ?_⟩
      rw [setW_same]; exact hs
    · rw [List.getElem?_set_ne hj] at e ⊢
      rw [setW_ne (Ne.symm hj)]
      exact h.at_ j s' e
  sep := fun j a w => by
    by_cases hj : j = i
    · subst hj
      rw [setW_same] at w
      obtain ⟨h1, h2, h3, h4, h5⟩ := hA a w
      exact ⟨h1, h2, h3, h5⟩
    · rw [setW_ne hj] at w
      exact h.sep j a w
  dis := fun j k a w1 w2 => by
    by_cases hj : j = i
    · by_cases hk : k = i
      · rw [hj, hk]
      · subst hj
        rw [setW_same] at w1
        rw [setW_ne hk] at w2
        exact absurd w2 ((hA a w1).2.2.2.1 k)
    · by_cases hk : k = i
      · subst hk
        rw [setW_same] at w2
        rw [setW_ne hj] at w1
        exact absurd w1 ((hA a w2).2.2.2.1 j)
      · rw [setW_ne hj] at w1
        rw [setW_ne hk] at w2
        exact h.dis j k a w1 w2
  me := fun j c ds e => by
    by_cases hj : i = j
    · subst hj
      have hl : i < τ.length := by
        have := (List.getElem?_eq_some_iff.mp e).1
        rw [List.length_set] at this
        exact this
      rw [List.getElem?_set_self hl] at e
      cases e
      exact absurd rfl (hob c ds)
    · rw [List.getElem?_set_ne hj] at e ⊢
      exact h.me j c ds e
end
def mTwo (i j : Nat) (e1 e2 : TauS → M Sv) : MS := fun τ R => match e1 τ R with
  | some (a, R1) => match e2 τ R1 with
    | some (b, R2) => .nx ((τ.set i (some a)).set j (some b)) R2
    | none => .stuck
  | none => .stuck
section
variable {X : Cx} {G : Gx} {a b : Expr} {ta tb : TE} {ea eb : TauS → M Sv} {x y : Str} {i j k1 k2 : Nat} {p1 p2 tpos epos pos : Pos}
theorem sp_two (hK : X.K = G.K) (hc : X.calm = true) (ha : PE X a ta) (hb : PE X b tb) (hva : EvR G ta ea) (hvb : EvR G tb eb) (hN : X.N.Nodup) (hi : X.N[i]? = some x) (hj : X.N[j]? = some y) (hx : Loc X.env.scope x) (hy : Loc X.env.scope y) (ij : i ≠ j)
    (fx : X.fn x = true ∨ X.env.scope.names.lookup x = some .local := by first | exact .inl rfl | exact .inr rfl | assumption) (fy : X.fn y = true ∨ X.env.scope.names.lookup y = some .local := by first | exact .inl rfl | exact .inr rfl | assumption)
    (hss : starEach [a, b] X.env = (false, eval a X.env) :: starEach [b] X.env := by rfl) (hss2 : starEach [b] X.env = (false, eval b X.env) :: starEach [] X.env := by rfl)
    (hs : swapsWithSole [.Tuple [.Name x p1, .Name y p2] k1 tpos] (.Tuple [a, b] k2 epos) pos.line X.env = pure false := by rfl) (hw : swappedStores [.Tuple [.Name x p1, .Name y p2] k1 tpos] (.Tuple [a, b] k2 epos) X.env = pure none := by rfl)
    (h1 : (assignEach [.Tuple [.Name x p1, .Name y p2] k1 tpos] X.env).map (·.2) = [assign (.Tuple [.Name x p1, .Name y p2] k1 tpos) X.env] := by rfl) : PS X (.Assign [.Tuple [.Name x p1, .Name y p2] k1 tpos] (.Tuple [a, b] k2 epos) pos) (tSS G (mTwo i j ea eb)) :=
  PS.mono (ps_asg (pe_tup (pa_cons ha (pa_cons hb pa_nil hss2) hss)) (pg_tup hc (pgs_cons (pg_name hN hi hx fx) (pgs_cons (pg_name hN hj hy fy) pgs_nil))) hs hw h1) fun E σ H h => by
    obtain ⟨r, H0, F0, F, W, τ, R, x, o, k, q⟩ := h
    unfold mTwo at q
    cases e1 : ea τ R with
    | none => rw [e1] at q; exact q.elim
    | some y1 =>
      rw [e1] at q
      dsimp only at q
      cases e2 : eb τ y1.2 with
      | none => rw [e2] at q; exact q.elim
      | some y2 =>
        rw [e2] at q
        dsimp only at q
        refine hva r H0 F0 F W τ R y1.1 y1.2 σ H _ x o k e1 fun v1 H1 F1 A1 s1 n1 nb1 o1 x1 => ?_
        refine hvb r H0 F0 F1 W τ y1.2 y2.1 y2.2 σ H1 _ (x.trans o x1) o1 (k.ext o x1) e2 fun v2 H2 F2 A2 s2 n2 nb2 o2 x2 => ?_
        refine ⟨(by show 2 ≤ sizeLine; rw [sizeLine_eq]; decide), fun T hT => ⟨T, [v1, v2], rfl, .inl (.inl upd_same), rfl, v1, [v2], rfl, v2, [], rfl, rfl, ?_⟩⟩
        have k2 := (k.ext o x1).ext o1 x2
        have nw := new_own (o := .tup [v1, v2]) o2 hT
        have k3 := k2.ext o2 nw.2
        have xx : Ext r F0 H0 F2 H2 := (x.trans o x1).trans o1 x2
        have f1 : ∀ a, A1 a → ¬ F2 a ∧ r ≠ some a ∧ H0 a = none ∧ (∀ j, ¬ W j a) ∧ (∃ u, upd H2 T (.tup [v1, v2]) a = some u) ∧ ∃ u, H1 a = some u := fun a ha => by
          obtain ⟨b1, b2, u, b3⟩ := n1 a ha
          obtain ⟨c1, c2, c3⟩ := new_facts x o k b1
          refine ⟨fun f => ?_, c1, c2, c3, ⟨u, by rw [upd_ne (ne_of_none (x2.same a u b3 c1) hT)]; exact x2.same a u b3 c1⟩, u, b3⟩
          rcases x2.new a f with f | f
          · exact b2 f
          · rw [b3] at f; cases f
        have f2 : ∀ a, A2 a → ¬ F2 a ∧ r ≠ some a ∧ H0 a = none ∧ (∀ j, ¬ W j a) ∧ (∃ u, upd H2 T (.tup [v1, v2]) a = some u) ∧ H1 a = none := fun a ha => by
          obtain ⟨b1, b2, u, b3⟩ := n2 a ha
          obtain ⟨c1, c2, c3⟩ := new_facts (x.trans o x1) o1 (k.ext o x1) b1
          exact ⟨b2, c1, c2, c3, ⟨u, by rw [upd_ne (ne_of_none b3 hT)]; exact b3⟩, b1⟩
        have x3 : Ext r F1 H1 F2 (upd H2 T (.tup [v1, v2])) := x2.trans o2 nw.2
        have g1 : SvAt G r F2 (upd H2 T (.tup [v1, v2])) A1 y1.1 v1 := s1.mono x3.mono (x3.kp o1) fun a ha u hu => x3.same a u hu (f1 a ha).2.1
        have g2 : SvAt G r F2 (upd H2 T (.tup [v1, v2])) A2 y2.1 v2 := s2.mono nw.2.mono (nw.2.kp o2) fun a ha u hu => nw.2.same a u hu (f2 a ha).2.1
        have k4 := k3.adoptR (i := i) g1 (fun a ha => let ⟨h1, h2, h3, h4, h5, _⟩ := f1 a ha; ⟨h1, h2, h3, h4, h5⟩) nb1
        have k5 := k4.adoptR (i := j) g2 (fun a ha => by
          obtain ⟨h1, h2, h3, h4, h5, h6⟩ := f2 a ha
          refine ⟨h1, h2, h3, fun l w => ?_, h5⟩
          by_cases hl : l = i
          · subst hl
            rw [setW_same] at w
            obtain ⟨_, _, _, _, _, u, z⟩ := f1 a w
            rw [h6] at z; cases z
          · rw [setW_ne hl] at w
            exact h4 l w) nb2
        exact q _ _ F2 _ (((x1.st o).trans (x2.st o1)).trans (nw.2.st o2)) (xx.trans o2 nw.2) nw.1 k5
end
end Nb
set_option Elab.async false
set_option linter.all false
set_option maxRecDepth 100000
namespace Nb
open PySem PySem.Spec PyProof.Rows L2 RZ
/-! ### sorted texts -/
def leS (x y : Str) : Bool := !ltCps y.cps.toList x.cps.toList
def insS (x : Str) : List Str → List Str
  | [] => [x]
  | y :: r => if leS x y then x :: y :: r else y :: insS x r
def srt : List Str → List Str
  | [] => []
  | x :: r => insS x (srt r)
theorem leS_iff {x y : Str} : leS x y = true ↔ x.cps.toList ≤ y.cps.toList := by
  unfold leS
  rw [ltCps_eq]
  simp only [Bool.not_eq_true', decide_eq_false_iff_not]
  exact List.not_lt
theorem leS_total (x y : Str) : leS x y = true ∨ leS y x = true := by
  rw [leS_iff, leS_iff]; exact List.le_total _ _
theorem leS_trans {x y z : Str} (a : leS x y = true) (b : leS y z = true) : leS x z = true := by
  rw [leS_iff] at *; exact List.le_trans a b
theorem leS_anti {x y : Str} (a : leS x y = true) (b : leS y x = true) : x = y := by
  rw [leS_iff] at *
  have e := List.le_antisymm a b
  cases x; cases y
  simp only [Str.mk.injEq]
  exact Array.toList_inj.mp e
theorem insS_perm (x : Str) : ∀ l, (insS x l).Perm (x :: l)
  | [] => .refl _
  | y :: r => by
    unfold insS
    split
    · exact .refl _
    · exact ((insS_perm x r).cons y).trans (.swap x y r)
theorem srt_perm : ∀ l, (srt l).Perm l
  | [] => .refl _
  | x :: r => (insS_perm x (srt r)).trans ((srt_perm r).cons x)
theorem insS_pw (x : Str) : ∀ {l : List Str}, l.Pairwise (fun a b => leS a b = true) → (insS x l).Pairwise (fun a b => leS a b = true)
  | [], _ => by simp [insS]
  | y :: r, h => by
    unfold insS
    obtain ⟨h1, h2⟩ := List.pairwise_cons.mp h
    split
    · rename_i hx
      refine List.pairwise_cons.mpr ⟨fun z hz => ?_, h⟩
      rcases List.mem_cons.mp hz with rfl | hz
      · exact hx
      · exact leS_trans hx (h1 z hz)
    · rename_i hx
      have hy : leS y x = true := (leS_total y x).resolve_right hx
      refine List.pairwise_cons.mpr ⟨fun z hz => ?_, insS_pw x h2⟩
      rcases List.mem_cons.mp ((insS_perm x r).mem_iff.mp hz) with rfl | hz
      · exact hy
      · exact h1 z hz
theorem srt_pw : ∀ l, (srt l).Pairwise (fun a b => leS a b = true)
  | [] => .nil
  | x :: r => insS_pw x (srt_pw r)
theorem rising_pw : ∀ (l : List Str) (p : Str), risingS p l = true → (p :: l).Pairwise (fun a b => leS a b = true)
  | [], p, _ => by simp
  | x :: r, p, h => by
    unfold risingS at h
    rw [Bool.and_eq_true] at h
    have ih := rising_pw r x h.2
    refine List.pairwise_cons.mpr ⟨fun z hz => ?_, ih⟩
    rcases List.mem_cons.mp hz with rfl | hz
    · exact h.1
    · exact leS_trans h.1 ((List.pairwise_cons.mp ih).1 z hz)
theorem sortedS_pw : ∀ {l : List Str}, sortedS l = true → l.Pairwise (fun a b => leS a b = true)
  | [], _ => .nil
  | x :: r, h => rising_pw r x h
theorem srt_eq {ys xs : List Str} (p : ys.Perm xs) (h : ys.Pairwise (fun a b => leS a b = true)) : ys = srt xs :=
  List.Perm.eq_of_pairwise (le := fun a b => leS a b = true) (fun a b _ _ => leS_anti) h (srt_pw xs) (p.trans (srt_perm xs).symm)
def keysS : List (Key × D) → Option (List Str)
  | [] => some []
  | (.inr s, _) :: r => (keysS r).map (s :: ·)
  | _ => none
theorem keysS_eq : ∀ {kvs : List (Key × D)} {ks : List Str}, keysS kvs = some ks → kvs.map (·.1) = ks.map Sum.inr
  | [], ks, e => by cases e; rfl
  | (.inl _, _) :: r, ks, e => by cases e
  | (.inr s, _) :: r, ks, e => by
    unfold keysS at e
    cases h : keysS r with
    | none => rw [h] at e; cases e
    | some l => rw [h] at e; cases e; rw [List.map_cons, List.map_cons, keysS_eq h]
def sortLO : List D → Option Own | [.lst ds] => (strsD ds).bind fun xs => if xs.length < 64 then some (.lst ((srt xs).map .str)) else none | _ => none
def sortKO : List D → Option Own | [.dct kvs] => (keysS kvs).bind fun xs => if xs.length < 64 then some (.lst ((srt xs).map .str)) else none | _ => none
def sortO : List D → Option Own := fun xs => (sortLO xs).or (sortKO xs)
section
variable {X : Cx} {G : Gx} {e : Expr} {ms : Tau → M (List D)} {p pos : Pos}
theorem o_sortL : CallO G (rSortedS G.K) sortLO := by
  intro r F H R xs us d Q o ru e q
  unfold sortLO at e
  split at e
  · rename_i ds
    cases h : strsD ds with
    | none => rw [h] at e; cases e
    | some ks =>
      rw [h] at e
      simp only [Option.bind_some] at e
      split at e
      · rename_i hl
        cases e
        obtain ⟨v, rfl, r1⟩ := ru.single
        simp only [Rep] at r1
        obtain ⟨a, vs, rfl, l, q1⟩ := r1
        have := strs_rep q1 h
        subst this
        refine ⟨a, ks, rfl, l.sq, hl, fun ys n hp hs hn => ?_⟩
        rw [srt_eq hp (sortedS_pw hs)]
        obtain ⟨h1, h2, h3, h4⟩ := own_lst (G := G) o hn (RepL.strs.mpr rfl : RepL G r F H ((srt ks).map D.str) ((srt ks).map V.str))
        exact q n _ _ hn h1 h2 h3 h4
      · cases e
  · cases e
theorem o_sortK : CallO G (fun xs H Q => ∃ (a : Addr) (kvs : List (Key × V)) (ks : List Str), xs = [.ref a] ∧ Rd H a (.dK kvs) ∧ kvs.map (·.1) = ks.map Sum.inr ∧ ks.length < 64 ∧ ∀ ys p, ys.Perm ks → sortedS ys = true → H p = none → Q (.ref p) (upd H p (.lst (ys.map V.str)))) sortKO := by
  intro r F H R xs us d Q o ru e q
  unfold sortKO at e
  split at e
  · rename_i kvs
    cases h : keysS kvs with
    | none => rw [h] at e; cases e
    | some ks =>
      rw [h] at e
      simp only [Option.bind_some] at e
      split at e
      · rename_i hl
        cases e
        obtain ⟨v, rfl, r1⟩ := ru.single
        simp only [Rep] at r1
        obtain ⟨a, ws, rfl, f, l, q1⟩ := r1
        refine ⟨a, ws, ks, rfl, l, by rw [← q1.keys]; exact keysS_eq h, hl, fun ys n hp hs hn => ?_⟩
        rw [srt_eq hp (sortedS_pw hs)]
        obtain ⟨h1, h2, h3, h4⟩ := own_lst (G := G) o hn (RepL.strs.mpr rfl : RepL G r F H ((srt ks).map D.str) ((srt ks).map V.str))
        exact q n _ _ hn h1 h2 h3 h4
      · cases e
  · cases e
theorem so_sorted (hK : X.K = G.K) (hc : X.calm = true) (hm : X.mg "sorted" = none) (ha : PA X [e] (tA G ms)) (hg : Gl X "sorted" := by rfl) (hs : starEach [e] X.env = (false, eval e X.env) :: starEach [] X.env := by rfl) (hpl : (backTo pos (starEach [] X.env)).any (·.1) = false := by rfl) :
    PE X (.Call (.Name "sorted" p) [e] [] pos) (tW G (mFunO sortO ms)) :=
  PE.mono (pe_callB (cr_sortedS.or (call_sortedD hc)) hg hm (by decide +kernel) ha (by decide) (by decide) hs hpl) fun σ H Q h => by
    have := funO_ok (CallO.or (o_sortL (G := G)) o_sortK) h
    rw [← hK] at this
    exact this
end
end Nb
set_option Elab.async false
set_option linter.all false
set_option maxRecDepth 100000
namespace Nb
open PySem PySem.Spec PyProof.Rows L2 RZ
@[reducible] def mCons (m : ME) (ms : Tau → M (List D)) : Tau → M (List D) := fun τ => do let x ← m τ; let xs ← ms τ; pure (x :: xs)
/-! ### list(text) -/
theorem signs_vals (x : Str) : ∀ (l : List Nat) (us : List Value) (k : Nat), us.length = l.length → (∀ j c, l[j]? = some c → x.cps[k + j]? = some c) → (∀ j v, us[j]? = some v → SignAt x (k + j) v) → Vals (l.map fun c => V.str ⟨#[c]⟩) us
  | [], [], _, _, _, _ => .nil
  | [], _ :: _, _, h, _, _ => nomatch h
  | _ :: _, [], _, h, _, _ => nomatch h
  | c :: l, u :: us, k, h, hc, hv => by
    refine .cons ?_ (signs_vals x l us (k + 1) (by simpa using h) (fun j c' e => by rw [Nat.add_assoc, Nat.add_comm 1 j]; exact hc (j + 1) c' (by simpa using e)) fun j v e => by rw [Nat.add_assoc, Nat.add_comm 1 j]; exact hv (j + 1) v (by simpa using e))
    obtain ⟨c', t, e1, e2⟩ := hv 0 u rfl
    have e3 := hc 0 c rfl
    rw [e1] at e3
    cases e3
    exact ⟨t, e2⟩
section
variable {X : Cx} {G : Gx} {e : Expr} {ms : Tau → M (List D)} {p pos : Pos}
theorem call_list_text (hc : X.calm = true) : CallR X (.type "list") (fun xs H Q => ∃ x : Str, xs = [.str x] ∧ x.cps.size ≤ 1000 ∧ ∀ p, H p = none → Q (.ref p) (upd H p (.lst (x.cps.toList.map fun c => V.str ⟨#[c]⟩)))) := by
  intro pins s σ H xs us Q I r h
  obtain ⟨x, rfl, hl, q⟩ := h
  obtain ⟨u, rfl, t, rfl⟩ := vals1 r
  refine call_list_str (I.ok.hd hc) x t (fun h' tk acc' c' k e hi => ?_) (by rw [sizeLine_eq]; omega)
  have hlen : acc'.toList.length = x.cps.toList.length := by rw [Array.length_toList, Array.length_toList]; exact hi.1
  have hv : Vals (x.cps.toList.map fun c => V.str ⟨#[c]⟩) acc'.toList := signs_vals x x.cps.toList acc'.toList 0 hlen (fun j c ej => by rw [Nat.zero_add, ← Array.getElem?_toList]; exact ej) fun j v ej => by
    rw [Nat.zero_add]; exact hi.2 j v (by rw [← Array.getElem?_toList]; exact ej)
  exact ⟨.ref s.heap.objs.size, _, I.laid (t' := tk) k (Nat.le_refl _) (show ObjOk X.prog X.w _ h' _ (.lst (x.cps.toList.map fun c => V.str ⟨#[c]⟩)) from ⟨by rw [List.length_map, Array.length_toList, sizeLine_eq]; omega, acc'.toList, c', hv, by simpa using e⟩), rfl, q _ (I.hok.fresh (Nat.le_refl _))⟩
def textO : List D → Option Own | [.str x] => if x.cps.size ≤ 1000 then some (.lst (x.cps.toList.map fun c => .str ⟨#[c]⟩)) else none | _ => none
theorem o_text : CallO G (fun xs H Q => ∃ x : Str, xs = [V.str x] ∧ x.cps.size ≤ 1000 ∧ ∀ p, H p = none → Q (.ref p) (upd H p (.lst (x.cps.toList.map fun c => V.str ⟨#[c]⟩)))) textO := by
  intro r F H R xs us d Q o ru e q
  unfold textO at e
  split at e
  · split at e
    · rename_i x hl
      cases e
      obtain ⟨v, rfl, r1⟩ := ru.single
      simp only [Rep] at r1
      subst r1
      refine ⟨x, rfl, hl, fun n hn => ?_⟩
      have e1 : (x.cps.toList.map fun c => D.str ⟨#[c]⟩) = (x.cps.toList.map fun c => (⟨#[c]⟩ : Str)).map D.str := by rw [List.map_map]; rfl
      have e2 : (x.cps.toList.map fun c => V.str ⟨#[c]⟩) = (x.cps.toList.map fun c => (⟨#[c]⟩ : Str)).map V.str := by rw [List.map_map]; rfl
      have rr : RepL G r F H (x.cps.toList.map fun c => D.str ⟨#[c]⟩) (x.cps.toList.map fun c => V.str ⟨#[c]⟩) := by rw [e1, e2]; exact RepL.strs.mpr rfl
      obtain ⟨h1, h2, h3, h4⟩ := own_lst (G := G) o hn rr
      exact q n _ _ hn h1 h2 h3 h4
    · cases e
  · cases e
def listO3 : List D → Option Own := fun xs => (listO xs).or (textO xs)
theorem so_list3 (hK : X.K = G.K) (hc : X.calm = true) (hm : X.mg "list" = none) (ha : PA X [e] (tA G ms)) (hg : Gl X "list" := by rfl) (hs : starEach [e] X.env = (false, eval e X.env) :: starEach [] X.env := by rfl) (hpl : (backTo pos (starEach [] X.env)).any (·.1) = false := by rfl) :
    PE X (.Call (.Name "list" p) [e] [] pos) (tW G (mFunO listO3 ms)) :=
  PE.mono (pe_callTy ((call_list_of.or (call_listD hc)).or (call_list_text hc)) hg hm (by decide +kernel) ha (by decide) (by decide) hs hpl) fun σ H Q h => by
    have := funO_ok (CallO.or (o_list (G := G)) o_text) h
    rw [← hK] at this
    exact this
theorem se_ty {x : Str} {T : String} (hm : X.mg x = none) (hv : bootBuiltins x = some (.type T)) (hg : Gl X x := by rfl) (hn : x ≠ "__name__" := by decide) (hd : (x == ("__debug__" : Str)) = false := by decide) : PE X (.Name x pos) (tE G (mC (.ty T))) :=
  se_const (pe_bltn hg hm hv (v := .ty T) rfl hn hd) fun r F H => by simp only [Rep]
theorem se_gint {x : Str} {i : Int} {t : Tok} (hm : X.mg x = some (.int i t)) (hg : Gl X x := by rfl) (hd : (x == ("__debug__" : Str)) = false := by decide) : PE X (.Name x pos) (tE G (mC (.int i))) :=
  se_const (pe_glob hg hm (v := .int i) ⟨t, rfl⟩ hd) fun r F H => by simp only [Rep]
theorem se_gcls {x : Str} {c : Str} (hm : X.mg x = some (.ref (G.ca c))) (hg : Gl X x := by rfl) (hd : (x == ("__debug__" : Str)) = false := by decide) : PE X (.Name x pos) (tE G (mC (.cls c))) :=
  se_const (pe_glob hg hm (v := .ref (G.ca c)) rfl hd) fun r F H => by simp only [Rep]
/-- a tuple of texts that stands at the module's top -/
theorem se_gtup {x : Str} {a : Addr} {o : Obj} {its : Array Value} {n : Nat} {ks : List Str} (hm : X.mg x = some (.ref a)) (hl : G.K.lookup a = some o) (hc : o.cls = .type "tuple") (hd' : o.data = .seq its n) (hz : its.size ≤ sizeLine) (hv : Vals (ks.map V.str) its.toList) (hg : Gl X x := by rfl) (hd : (x == ("__debug__" : Str)) = false := by decide) :
    PE X (.Name x pos) (tE G (mC (.tup (ks.map .str)))) :=
  se_const (pe_glob hg hm (v := .ref a) rfl hd) fun r F H => by
    simp only [Rep]
    exact ⟨a, _, rfl, .inr ⟨o, its, n, hl, hc, hd', hz, hv⟩, RepL.strs.mpr rfl⟩
end
end Nb
set_option Elab.async false
set_option linter.all false
set_option maxRecDepth 100000
namespace Nb
open PySem PySem.Spec PyProof.Rows L2
theorem strs_all : ∀ {vs : List Value}, (∀ v ∈ vs, ∃ x t, v = Value.str x t) → StrsAre vs (vs.map PyProof.Rows.strOf)
  | [], _ => .nil
  | v :: vs, h => by
    obtain ⟨x, t, rfl⟩ := h v List.mem_cons_self
    exact .cons x t (strs_all fun u hu => h u (List.mem_cons_of_mem _ hu))
theorem strKf (P : Program) (w : World) : ∀ k v, (PySem.strKind P w).is k v = true → PyProof.Rows.strOf v = k := fun k v h => by
  obtain ⟨t, rfl⟩ := Value.isStrOf_shape h
  rfl
section
variable {P : Program} {w : World} {a : Addr} {n : Nat} {A : Around} {E : Value → Shared → Prop} {s : Shared}
/-- sorted of a set of texts -/
theorem sorted_setT {S : Str → Bool} {Q : Value → Shared → Prop} (g : SetG (PySem.strKind P w) PyProof.Rows.strOf s.heap a S n) (hh : A.handled = none) (hn : n ≤ sizeLine)
    (fin : ∀ s' p (out : Array Value) (c : Nat) (ys : List Str), (∀ b o, s.heap.get? b = some o → s'.heap.get? b = some o) → s'.gens = s.gens → s'.os = s.os → s.heap.objs.size ≤ p →
      s'.heap.get? p = some (seqObj "list" out c) → StrsAre out.toList ys → sortedS ys = true → ys.Nodup → (∀ k, k ∈ ys ↔ S k = true) → ys.length = n → Q (.ref p) s') :
    wpAny (model P w) A (call (.builtin "sorted") [.ref a]) Q E s := by
  obtain ⟨ob, els, ep, tab, h0, hx, hd, g1, g2, g3, g4, g5, g6, g7, g8⟩ := g
  refine Calls.call_function_entry kind_sorted plain_sorted entry_sorted (args_sorted1 _) ?_
  unfold Builtin.«sorted»
  refine wpAny_bind (m := checkCount "sorted" 1 1 _) (wpAny_pure ?_)
  refine wpAny_bind (collect_set (A := A.in1) hh ⟨ob, h0, hx.1, hd⟩ g5 g4 g7 g8 fun s1 vs k1 hz e1 e2 pm => ?_)
  have hvl : vs.length = n := by rw [pm.length_eq, List.length_map, Array.length_toList]; exact g6
  have hI : StrsAre vs (vs.map PyProof.Rows.strOf) := strs_all fun v hv => by
    obtain ⟨e, he, q⟩ := List.mem_map.mp (pm.mem_iff.mp hv)
    obtain ⟨t, q2⟩ := Value.isStrOf_shape (g1 e he).1
    exact ⟨_, t, by rw [← q]; exact q2⟩
  have pk : (vs.map PyProof.Rows.strOf).Perm (keysE PyProof.Rows.strOf els.toList) := by
    have q := pm.map PyProof.Rows.strOf
    rw [List.map_map] at q
    exact q
  refine wpAny_bind (wpAny_newList ?_ (by rw [hvl]; exact hn))
  have hoL : (s1.heap.push (seqObj "list" vs.toArray 0)).get? s1.heap.objs.size = some (seqObj "list" vs.toArray 0) := Heap.get?_push_size _ rfl
  refine wpAny_bind (wpAny_holding (wpAny_call_entry slot_list_sort ⟨_, hoL, rfl⟩ entry_list_sort (list_sort_treeKAny strKind_oneLt hoL hI.keysOf (fun v₁ v₂ rest e => keyKind_strs (by rw [← e]; exact hI)) (by rw [hvl]; exact hn) fun st' a1 a2 => ⟨_, rfl, ?_⟩) (args_list_sort _)))
  obtain ⟨ys, b1, b2, b3⟩ := sorted_out_str hI a1 a2
  obtain ⟨c, hc⟩ := sortedHeap_at (vs := vs) (out := (arrOf st').map (·.2)) hoL
  have pn : ys.Perm (keysE PyProof.Rows.strOf els.toList) := b2.trans pk
  refine wpAny_pure ⟨_, rfl, fin _ s1.heap.objs.size _ c ys (fun b u e => ?_) e1 e2 hz hc b1 b3 (pn.nodup_iff.mpr g2) (fun k => by rw [pn.mem_iff, ← g3 k]) (by rw [pn.length_eq]; unfold keysE; rw [List.length_map, Array.length_toList]; exact g6)⟩
  have q := k1 b u e
  have hlt := Heap.lt_size q
  show (sortedHeap (s1.heap.push (seqObj "list" vs.toArray 0)) s1.heap.objs.size vs _).get? b = some u
  rw [sortedHeap_old (Nat.ne_of_lt hlt) (by rw [size_push']; exact Nat.lt_succ_of_lt hlt)]
  exact Heap.get?_push_of_some _ q
end
end Nb
set_option Elab.async false
set_option linter.all false
set_option maxRecDepth 100000
namespace Nb
open PySem PySem.Spec PyProof.Rows L2 RZ
def tSoSet (K : PySem.W.Frag) (ta : TE) : TE := fun σ H Q => ta σ H fun x H1 => ∃ (l : Addr) (xs : List Str), x = V.ref l ∧ SqL K H1 l (xs.map V.str) ∧ xs.length ≤ 1000 ∧
  ∀ (ys : List Str) (p : Addr), sortedS ys = true → ys.Nodup → (∀ k, k ∈ ys ↔ k ∈ xs) → H1 p = none → Q (.ref p) (upd H1 p (.lst (ys.map V.str)))
section
variable {X : Cx} {G : Gx} {e : Expr} {ta : TE} {ma : ME} {p p2 pos pos2 : Pos}
theorem pe_sortedSet (hc : X.calm = true) (hg : Gl X "sorted") (hm : X.mg "sorted" = none) (hg2 : Gl X "set") (hm2 : X.mg "set" = none) (ha : PE X e ta)
    (na : starEach [e] X.env = (false, eval e X.env) :: starEach [] X.env := by rfl) : PE X (.Call (.Name "sorted" p) [.Call (.Name "set" p2) [e] [] pos2] [] pos) (tSoSet X.K ta) := by
  refine ⟨fun pins s σ H Q I h => ?_⟩
  have hb1 : bootBuiltins ("sorted" : Str) = some (.builtin "sorted") := by decide +kernel
  refine Call_ (ld_blt I hg hm hb1 ?_)
  refine PyProof.Rows.callWith_builtin1 (PyProof.Rows.args_cons ?_ rfl) rfl rfl
  refine Call_ (ld_blt I hg2 hm2 PyProof.Rows.boot_set ?_)
  refine PyProof.Rows.callWith_type1 (PyProof.Rows.args_cons (thn (ha.run pins s σ H _ I h) fun v s1 ⟨x, H1, I1, r1, q1⟩ => PyProof.Rows.args_nil ?_) na) na rfl
  obtain ⟨l, xs, rfl, hq, h1, q1⟩ := q1
  cases r1
  obtain ⟨its, rv, pl, hz⟩ := I1.list hq
  have hst := rv.strs
  have hl : its.toArray.size = xs.length := by rw [List.size_toArray, hst.length]
  refine setG_list (knd := PySem.strKind X.prog X.w) (kf := PyProof.Rows.strOf) (strKf _ _) xs (I1.ok.hd hc) pl.isList hl (fun i v hv => ?_) (by unfold scanBound; omega) fun h' tk c g hc' kp => ?_
  · obtain ⟨y, t, e1, e2⟩ := hst.item i v (by rw [List.getElem?_toArray] at hv; exact hv)
    first
      | exact ⟨y, e2, by rw [e1]; show Value.isStrOf y (.str y t) = true; simp [Value.isStrOf], by rw [e1]; rfl⟩
      | exact ⟨y, e1, by rw [e2]; show Value.isStrOf y (.str y t) = true; simp [Value.isStrOf], by rw [e2]; rfl⟩
  · refine PyProof.Rows.args_nil ?_
    have I2 : Inv X pins σ H1 { s1 with heap := h', toks := tk } := I1.kept kp
    generalize e2 : ({ s1 with heap := h', toks := tk } : Shared) = s2 at I2 ⊢
    have g : SetG (PySem.strKind X.prog X.w) PyProof.Rows.strOf s2.heap s1.heap.objs.size (fun j => decide (j ∈ xs)) c := by rw [← e2]; exact g
    refine sorted_setT (s := s2) g (I2.ok.hd hc) (by rw [sizeLine_eq]; omega) fun s' a out cc ys k g1 o1 hp hob hS hsrt hnd hmem hlen => ?_
    have hn : H1 a = none := I2.hok.fresh hp
    have hv : Vals (ys.map V.str) out.toList := vals_of_strs hS
    have hl2 : (ys.map V.str).length ≤ sizeLine := by rw [List.length_map, hlen, sizeLine_eq]; omega
    have J : Inv X pins σ (upd H1 a (.lst (ys.map V.str))) { s2 with heap := s'.heap, gens := s'.gens, drawn := s'.drawn, toks := s'.toks } :=
      I2.call (ch := []) (Un.laid k hp hn) (I2.hok.laid k hp ⟨hl2, out.toList, cc, hv, hob⟩) (by rw [g1]; exact I2.bare) (fun _ z => nomatch z)
    have es : s' = { s2 with heap := s'.heap, gens := s'.gens, drawn := s'.drawn, toks := s'.toks } := by
      cases s'
      cases s2
      cases o1
      rfl
    rw [es]
    exact ⟨.ref a, _, J, rfl, q1 ys a hsrt hnd (fun k => by rw [hmem k, decide_eq_true_eq]) hn⟩
end
def dedupS : List Str → List Str
  | [] => []
  | x :: r => if r.contains x then dedupS r else x :: dedupS r
theorem dedupS_mem : ∀ {xs : List Str} {k : Str}, k ∈ dedupS xs ↔ k ∈ xs
  | [], k => Iff.rfl
  | x :: r, k => by
    unfold dedupS
    split
    · rename_i h
      rw [dedupS_mem, List.mem_cons]
      constructor
      · exact .inr
      · rintro (rfl | h')
        · simpa using h
        · exact h'
    · rw [List.mem_cons, List.mem_cons, dedupS_mem]
theorem dedupS_nodup : ∀ xs : List Str, (dedupS xs).Nodup
  | [] => List.nodup_nil
  | x :: r => by
    unfold dedupS
    split
    · exact dedupS_nodup r
    · rename_i h
      exact List.nodup_cons.mpr ⟨fun z => h (by simpa using dedupS_mem.mp z), dedupS_nodup r⟩
theorem srt_dedup {ys xs : List Str} (h1 : sortedS ys = true) (h2 : ys.Nodup) (h3 : ∀ k, k ∈ ys ↔ k ∈ xs) : ys = srt (dedupS xs) :=
  srt_eq ((List.perm_ext_iff_of_nodup h2 (dedupS_nodup xs)).mpr fun k => (h3 k).trans dedupS_mem.symm) (sortedS_pw h1)
def sortSO : List D → Option Own | [.lst ds] => (strsD ds).bind fun xs => if xs.length ≤ 1000 then some (.lst ((srt (dedupS xs)).map .str)) else none | _ => none
section
variable {X : Cx} {G : Gx} {e : Expr} {ma : ME} {p p2 pos pos2 : Pos}
theorem so_sortedSet (hK : X.K = G.K) (hc : X.calm = true) (hm : X.mg "sorted" = none) (hm2 : X.mg "set" = none) (ha : PE X e (tE G ma)) (hg : Gl X "sorted" := by rfl) (hg2 : Gl X "set" := by rfl)
    (na : starEach [e] X.env = (false, eval e X.env) :: starEach [] X.env := by rfl) :
    PE X (.Call (.Name "sorted" p) [.Call (.Name "set" p2) [e] [] pos2] [] pos) (tW G (mFunO sortSO (mCons ma fun _ => pure []))) :=
  PE.mono (pe_sortedSet hc hg hm hg2 hm2 ha na) fun σ H Q h => by
    obtain ⟨r, F, τ, R, ob, R', ht, o, e, q⟩ := h
    obtain ⟨xs, R1, e1, e2⟩ := M.bind_some e
    obtain ⟨x, R2, e3, e4⟩ := M.bind_some e1
    obtain ⟨_, R3, e5, e6⟩ := M.bind_some e4
    cases e5
    cases e6
    obtain ⟨e7, rfl⟩ := opt_some e2
    refine ⟨r, F, τ, R, x, _, ht, o, e3, fun u H1 F1 ru o1 x1 => ?_⟩
    unfold sortSO at e7
    split at e7
    · rename_i ds hds
      cases hds
      cases hs : strsD ds with
      | none => rw [hs] at e7; cases e7
      | some ks =>
        rw [hs] at e7
        simp only [Option.bind_some] at e7
        split at e7
        · rename_i hl
          cases e7
          simp only [Rep] at ru
          obtain ⟨a, vs, rfl, l, q1⟩ := ru
          have := strs_rep q1 hs
          subst this
          refine ⟨a, ks, rfl, by rw [hK]; exact l.sq, hl, fun ys n h1 h2 h3 hn => ?_⟩
          rw [srt_dedup h1 h2 h3]
          obtain ⟨k1, k2, k3, k4⟩ := own_lst (G := G) o1 hn (RepL.strs.mpr rfl : RepL G r F1 H1 ((srt (dedupS ks)).map D.str) ((srt (dedupS ks)).map V.str))
          exact q n _ _ (none_back o1 x1 hn) k1 k2 k3 (x1.trans o1 k4)
        · cases e7
    · cases e7
end
end Nb
set_option Elab.async false
set_option linter.all false
set_option maxRecDepth 100000
namespace Nb
open PySem PySem.Spec PyProof.Rows L2 RZ
/-! ### dicts compared -/
def goV (ls : List (Key × V)) : List (Key × V) → Bool
  | [] => true
  | (k, v) :: r => match valV ls k with
    | none => false
    | some y => eqV v y && goV ls r
theorem hits_go {A : Around} {s : Shared} {ls : List (Key × V)} {vb : List (Key × Value)} (rb : KV ls vb) (fl : ∀ p ∈ ls, flatV p.2 = true) : ∀ {ks : List (Key × V)} {va : List (Key × Value)}, KV ks va → (∀ p ∈ ks, flatV p.2 = true) → PySem.W.KeqHits A s vb va (goV ls ks)
  | _, _, .nil, _ => .nil
  | p :: ks, q :: va, .cons h t, fk => by
    obtain ⟨k, v⟩ := p
    obtain ⟨k', u⟩ := q
    obtain ⟨h1, h2⟩ := h
    have h1 : k = k' := h1
    have h2 : RelV v u := h2
    subst h1
    have rr : RelO (valV ls k) (valueAt vb k) := rb.val k
    unfold goV
    cases e : valV ls k with
    | none =>
      rw [e] at rr
      have e2 : valueAt vb k = none := by
        cases z : valueAt vb k with
        | none => rfl
        | some y => rw [z] at rr; exact absurd rr (by intro w; exact w.elim)
      exact .miss e2
    | some y =>
      rw [e] at rr
      obtain ⟨u', hy, ry⟩ := rr.some_of
      have fy : flatV y = true := by
        unfold valV at e
        cases z : ls.find? fun kv => decide (kv.1 = k) with
        | none => rw [z] at e; cases e
        | some kv =>
          rw [z] at e; cases e
          exact fl kv (List.mem_of_find?_eq_some z)
      exact .hit hy (eqAt_V h2 ry (fk _ List.mem_cons_self) fy) (hits_go rb fl t fun p' hm => fk p' (List.mem_cons_of_mem _ hm))
section
variable {X : Cx}
def rEqK (neg : Bool) : R2 := fun x y H Q => ∃ a b ks ls, x = .ref a ∧ y = .ref b ∧ Rd H a (.dK ks) ∧ Rd H b (.dK ls) ∧ (ks.length = ls.length → (∀ p ∈ ks, flatV p.2 = true) ∧ ∀ p ∈ ls, flatV p.2 = true) ∧ Q (.bl (if neg then !(ks.length == ls.length && goV ls ks) else (ks.length == ls.length && goV ls ks))) H
theorem op_eqK (hu : X.A.units < cLine) : OpR X (compareOp .Eq) (rEqK false) := by
  intro pins s σ H x y v u Q I rx ry h
  obtain ⟨a, b, ks, ls, rfl, rfl, ea, eb, hp, q⟩ := h
  obtain rfl : v = Value.ref a := rx
  obtain rfl : u = Value.ref b := ry
  obtain ⟨_, ya, va, ra, da⟩ := dk_rd I.hok ea
  obtain ⟨_, yb, vb, rb, db⟩ := dk_rd I.hok eb
  refine PySem.W.keq_eq (knd := mixKind X.prog X.w) (r := goV ls ks) ya yb da db hu (fun hl => ?_) (fin_bl I q (by rw [← ra.length, ← rb.length]; rfl))
  have hl' : ks.length = ls.length := by rw [ra.length, rb.length]; exact hl
  exact hits_go rb (hp hl').2 ra (hp hl').1
theorem op_neK (hu : X.A.units < cLine) : OpR X (compareOp .NotEq) (rEqK true) := by
  intro pins s σ H x y v u Q I rx ry h
  obtain ⟨a, b, ks, ls, rfl, rfl, ea, eb, hp, q⟩ := h
  obtain rfl : v = Value.ref a := rx
  obtain rfl : u = Value.ref b := ry
  obtain ⟨_, ya, va, ra, da⟩ := dk_rd I.hok ea
  obtain ⟨_, yb, vb, rb, db⟩ := dk_rd I.hok eb
  refine PySem.W.keq_ne (knd := mixKind X.prog X.w) (r := goV ls ks) ya yb da db hu (fun hl => ?_) (fin_bl I q (by rw [← ra.length, ← rb.length]; rfl))
  have hl' : ks.length = ls.length := by rw [ra.length, rb.length]; exact hl
  exact hits_go rb (hp hl').2 ra (hp hl').1
end
def flatK : List (Key × D) → Option (List (Key × V))
  | [] => some []
  | (k, d) :: r => (vD d).bind fun v => (flatK r).map fun l => (k, v) :: l
theorem flatK_rep {G : Gx} {r F H} : ∀ {ks : List (Key × D)} {ws : List (Key × V)} {fs : List (Key × V)}, RepK G r F H ks ws → flatK ks = some fs → ws = fs ∧ ∀ p ∈ fs, flatV p.2 = true
  | [], ws, fs, h, e => by simp only [RepK] at h; cases e; exact ⟨h, fun _ z => nomatch z⟩
  | (k, d) :: ks, ws, fs, h, e => by
    simp only [RepK] at h
    obtain ⟨w, ws, rfl, a, b⟩ := h
    unfold flatK at e
    cases e1 : vD d with
    | none => rw [e1] at e; cases e
    | some v =>
      rw [e1] at e
      cases e2 : flatK ks with
      | none => rw [e2] at e; cases e
      | some l =>
        rw [e2] at e; cases e
        obtain ⟨rfl, f⟩ := flatK_rep b e2
        rw [a.flat e1]
        exact ⟨rfl, fun p hp => by
          rcases List.mem_cons.mp hp with rfl | hp
          · exact vD_flat e1
          · exact f p hp⟩
def eqK : D → D → Option Bool
  | .dct ks, .dct ls => if ks.length = ls.length then (flatK ks).bind fun a => (flatK ls).map fun b => goV b a else some false
  | _, _ => none
def eqD3 : D → D → Option Bool := orF eqD eqK
def neD3 : D → D → Option Bool := orF neD fun x y => (eqK x y).map (!·)
section
variable {X : Cx} {G : Gx} {a b : Expr} {ma mb : ME} {pos : Pos}
theorem eqK_of {r F H} {x y : D} {u v : V} {k : Bool} (ru : Rep G r F H x u) (rv : Rep G r F H y v) (e : eqK x y = some k) : ∃ p q ks ls, u = .ref p ∧ v = .ref q ∧ Rd H p (.dK ks) ∧ Rd H q (.dK ls) ∧ (ks.length = ls.length → (∀ p ∈ ks, flatV p.2 = true) ∧ ∀ p ∈ ls, flatV p.2 = true) ∧ k = (ks.length == ls.length && goV ls ks) := by
  unfold eqK at e
  split at e
  · rename_i ks ls
    simp only [Rep] at ru rv
    obtain ⟨p, ws, rfl, f, l, q1⟩ := ru
    obtain ⟨p2, ws2, rfl, f2, l2, q2⟩ := rv
    refine ⟨p, p2, ws, ws2, rfl, rfl, l, l2, ?_⟩
    split at e
    · rename_i hl
      cases e1 : flatK ks with
      | none => rw [e1] at e; cases e
      | some as =>
        cases e2 : flatK ls with
        | none => rw [e1, e2] at e; cases e
        | some bs =>
          rw [e1, e2] at e
          cases e
          obtain ⟨rfl, g1⟩ := flatK_rep q1 e1
          obtain ⟨rfl, g2⟩ := flatK_rep q2 e2
          refine ⟨fun _ => ⟨g1, g2⟩, ?_⟩
          rw [q1.length, q2.length] at hl
          rw [hl]
          simp
    · rename_i hl
      cases e
      rw [q1.length, q2.length] at hl
      exact ⟨fun z => absurd z hl, by simp [hl]⟩
  · cases e
theorem d_eqK : OpB G (rEqK false) eqK := by
  intro r F H R x y u v k Q o ru rv e q
  obtain ⟨p, q', ks, ls, rfl, rfl, h1, h2, h3, rfl⟩ := eqK_of ru rv e
  exact ⟨p, q', ks, ls, rfl, rfl, h1, h2, h3, q⟩
theorem d_neK : OpB G (rEqK true) (fun x y => (eqK x y).map (!·)) := by
  intro r F H R x y u v k Q o ru rv e q
  have e : (eqK x y).map (!·) = some k := e
  cases h : eqK x y with
  | none => rw [h] at e; cases e
  | some b =>
    rw [h] at e; cases e
    obtain ⟨p, q', ks, ls, rfl, rfl, h1, h2, h3, rfl⟩ := eqK_of ru rv h
    exact ⟨p, q', ks, ls, rfl, rfl, h1, h2, h3, q⟩
theorem se_eq3 (hK : X.K = G.K) (hu : X.A.units + 64 < cLine) (ha : PE X a (tE G ma)) (hb : PE X b (tE G mb)) : PE X (.Compare a [.Eq] [b] pos) (tE G (asE (mCmp eqD3 ma mb))) := se_cmp ((op_eq.or (op_eqD hu)).or (op_eqK (by omega))) ((d_eqS.or (by rw [hK]; exact d_eqP)).or d_eqK) ha hb (nomark _)
theorem st_eq3 (hK : X.K = G.K) (hu : X.A.units + 64 < cLine) (ha : PE X a (tE G ma)) (hb : PE X b (tE G mb)) : PT X (.Compare a [.Eq] [b] pos) (tT G (mCmp eqD3 ma mb)) := st_cmp ((op_eq.or (op_eqD hu)).or (op_eqK (by omega))) ((d_eqS.or (by rw [hK]; exact d_eqP)).or d_eqK) ha hb (nomark _)
theorem se_ne3 (hK : X.K = G.K) (hu : X.A.units + 64 < cLine) (ha : PE X a (tE G ma)) (hb : PE X b (tE G mb)) : PE X (.Compare a [.NotEq] [b] pos) (tE G (asE (mCmp neD3 ma mb))) := by
  unfold neD3; rw [neD_eq]; exact se_cmp ((op_ne.or (op_neD hu)).or (op_neK (by omega))) ((d_neS.or (by rw [hK]; exact d_neP)).or d_neK) ha hb (nomark _)
theorem st_ne3 (hK : X.K = G.K) (hu : X.A.units + 64 < cLine) (ha : PE X a (tE G ma)) (hb : PE X b (tE G mb)) : PT X (.Compare a [.NotEq] [b] pos) (tT G (mCmp neD3 ma mb)) := by
  unfold neD3; rw [neD_eq]; exact st_cmp ((op_ne.or (op_neD hu)).or (op_neK (by omega))) ((d_neS.or (by rw [hK]; exact d_neP)).or d_neK) ha hb (nomark _)
end
/-! ### what stands at the module's top -/
def GTup (G : Gx) (mg : Str → Option Value) (x : Str) (ks : List Str) : Prop := ∃ (a : Addr) (o : Obj) (its : Array Value) (n : Nat), mg x = some (.ref a) ∧ G.K.lookup a = some o ∧ o.cls = .type "tuple" ∧ o.data = .seq its n ∧ its.size ≤ sizeLine ∧ Vals (ks.map V.str) its.toList
def GInt (mg : Str → Option Value) (x : Str) (i : Int) : Prop := ∃ t, mg x = some (.int i t)
section
variable {X : Cx} {G : Gx} {x : Str} {pos : Pos}
theorem se_gtupX {ks : List Str} (h : GTup G X.mg x ks) (hg : Gl X x := by rfl) (hd : (x == ("__debug__" : Str)) = false := by decide) : PE X (.Name x pos) (tE G (mC (.tup (ks.map .str)))) := by
  obtain ⟨a, o, its, n, h1, h2, h3, h4, h5, h6⟩ := h
  exact se_gtup h1 h2 h3 h4 h5 h6 hg hd
theorem se_gintX {i : Int} (h : GInt X.mg x i) (hg : Gl X x := by rfl) (hd : (x == ("__debug__" : Str)) = false := by decide) : PE X (.Name x pos) (tE G (mC (.int i))) := by
  obtain ⟨t, h1⟩ := h
  exact se_gint h1 hg hd
end
end Nb
set_option Elab.async false
set_option linter.all false
set_option maxRecDepth 100000
namespace Nb
open PySem PySem.Spec PyProof.Rows L2 RZ
/-! ### y = [.. for ..] -/
theorem EvS.imp {G : Gx} {t te : TE} {ev : TauS → M D} (k : ∀ σ H Q, t σ H Q → te σ H Q) (h : EvS G t ev) : EvS G te ev := fun r H0 F0 F W τ R d R' σ H Q x o kk e q => k _ _ _ (h r H0 F0 F W τ R d R' σ H Q x o kk e q)
theorem EvP.imp {G : Gx} {t te : TE} {ev : TauS → M Own} (k : ∀ σ H Q, t σ H Q → te σ H Q) (h : EvP G t ev) : EvP G te ev := fun r H0 F0 F W τ R d R' σ H Q x o kk e q => k _ _ _ (h r H0 F0 F W τ R d R' σ H Q x o kk e q)
theorem tw_frz {G : Gx} {m : Tau → M Own} : ∀ σ H Q, tE G (mFz m) σ H Q → tW G m σ H Q := fun σ H Q q => by
  obtain ⟨r, F, τ, R, d, R', ht, o, e, q⟩ := q
  obtain ⟨ob, R1, e1, e2⟩ := M.bind_some e
  obtain ⟨e3, rfl⟩ := opt_some e2
  refine ⟨r, F, τ, R, ob, _, ht, o, e1, fun p H' F' np nF ow o' x' => ?_⟩
  obtain ⟨a, b⟩ := frz_top o' (src_ne o np) ow e3
  exact q _ _ _ a b (frz_ext np x')
section
variable {X : Cx} {G : Gx} {st : Stmt} {te : TE} {i : Nat} {ev : TauS → M D} {eo : TauS → M Own}
theorem sp_nameS (h : PS X st (tAsg te (gName i))) (hv : EvS G te ev) : PS X st (tSS G (mSet (gN i) ev)) := PS.mono h fun E σ H h => by
  obtain ⟨r, H0, F0, F, W, τ, R, x, o, k, q⟩ := h
  unfold mSet at q
  cases e1 : ev τ R with
  | none => rw [e1] at q; exact q.elim
  | some p =>
    rw [e1] at q
    exact hv r H0 F0 F W τ R p.1 p.2 σ H _ x o k e1 fun v H' F' rv o' x' xx k' => q _ H' F' W (xx.st o) x' o' (k'.set i rv)
theorem sp_nameP (h : PS X st (tAsg te (gName i))) (hv : EvP G te eo) : PS X st (tSS G (mNew i eo)) := PS.mono h fun E σ H h => by
  obtain ⟨r, H0, F0, F, W, τ, R, x, o, k, q⟩ := h
  unfold mNew at q
  cases e1 : eo τ R with
  | none => rw [e1] at q; exact q.elim
  | some y =>
    rw [e1] at q
    refine hv r H0 F0 F W τ R y.1 y.2 σ H _ x o k e1 fun p H1 F1 np nF ow o1 x1 => ?_
    obtain ⟨f1, f2, f3⟩ := new_facts x o k np
    exact q _ _ F1 _ (x1.st o) (x.trans o x1) o1 ((k.ext o x1).adopt nF f1 f2 f3 (notObj (fun _ z => z) ow) ow)
/-- the same with the lock on a dict, or without -/
def orLock (te : TE) : TE := fun σ H Q => te σ H Q ∨ tLockE te σ H Q
theorem ps_orLock (h : PS X st (tAsg te (gName i))) : PS X st (tAsg (orLock te) (gName i)) := PS.mono (PS.or h (ps_lock h)) fun E σ H q => q
end
section
variable {G : Gx} {mi : Tau → M (List D)} {g : D → Option (List (Nat × D))} {mt : Tau → M Bool} {me : ME} {vs : List Nat} {te : TE} {ma : ME}
theorem lc_tw : ∀ σ H Q, tW G (mComp vs mi g mt me) σ H Q → tLc (tI G mi) (tG G g) (tT G mt) (tE G me) vs σ H Q := fun σ H Q h => by
  obtain ⟨r, F, τ, R, d, R', hT, o, e, q⟩ := h
  obtain ⟨ds, R1, e1, e2⟩ := M.bind_some e
  obtain ⟨xs, Rb, e3, e4⟩ := M.bind_some e2
  obtain ⟨e5, rfl⟩ := opt_some e4
  split at e5
  · cases e5
    exact ⟨r, F, τ, R, ds, R1, hT, o, e1, fun J H1 F1 w o1 x1 => comp_core (hT.ext o x1) w o1 e3 ‹_› fun p H' F' np nF ow o' x' => q p H' F' (none_back o1 x1 np) nF ow o' (x1.trans o1 x')⟩
  · cases e5
theorem lcD_tw {S : SS} {J : Addr → Obj → List (Key × V) → It} {sel : List (Key × D) → List D} (hT : Told G te ma) (hS : SOk S J) (hw : WkD G J sel) :
    ∀ σ H Q, tW G (mComp vs (mLkI sel ma) g mt me) σ H Q → orLock (tLc (fun σ H R => te σ H fun x H1 => S x H1 R) (tG G g) (tT G mt) (tE G me) vs) σ H Q := fun σ H Q h =>
  lk_core hT hS hw (σ := σ) (H := H) (Q := Q) (mk := compR vs g mt me) (P := fun J σ H1 Q => tLc (fun σ H R => R J H) (tG G g) (tT G mt) (tE G me) vs σ H1 Q) (fun r F1 H1 R1 τ σ J ds d R' Q ht w o e q => by
    obtain ⟨xs, Rb, e3, e4⟩ := M.bind_some e
    obtain ⟨e5, rfl⟩ := opt_some e4
    split at e5
    · cases e5
      exact comp_core ht w o e3 ‹_› q
    · cases e5) h
end
section
variable {X : Cx} {G : Gx} {elt tg iter : Expr} {ifs : List Expr} {scope : Scope} {own : List (Str × Nat)} {pos spos py : Pos} {y : Str} {mi : Tau → M (List D)} {g : D → Option (List (Nat × D))} {mt : Tau → M Bool} {me ma : ME} {te : TE} {i : Nat}
theorem sp_lcS (hc : X.calm = true) (hN : X.N.Nodup) (hy : X.N[i]? = some y) (hyl : X.env.scope.names.lookup y = some .local) (hsw : swapsWith (.ListComp elt [⟨tg, iter, ifs, 0⟩] scope pos) (some (.Name y py)) spos.line X.env = pure true) (hi : PI X tg iter (tI G mi)) (ok : BlkOk X.N X.env.scope scope own)
    (hg : ∀ (s : Shared) (H : Hp) (C : Addr) (cl : List (Str × Addr)) (fp : List Addr), PG (X.blk s H scope (compEnvC scope cl C X.env) fp) tg (tG G g)) (ht : ∀ (s : Shared) (H : Hp) (C : Addr) (cl : List (Str × Addr)) (fp : List Addr), PTs (X.blk s H scope (compEnvC scope cl C X.env) fp) ifs (tT G mt))
    (he : ∀ (s : Shared) (H : Hp) (C : Addr) (cl : List (Str × Addr)) (fp : List Addr), PE (X.blk s H scope (compEnvC scope cl C X.env) fp) elt (tE G me)) (hs : ∀ x, foldedSetIterable iter X.env x = pure x := by intro _; rfl) :
    PS X (.Assign [.Name y py] (.ListComp elt [⟨tg, iter, ifs, 0⟩] scope pos) spos) (tSS G (mSet (gN i) (evA (mFz (mComp (own.map (·.2)) mi g mt me))))) :=
  sp_nameS (ps_setLc hc hN hy hyl hsw hi ok hg ht he hs) (EvS.imp (fun _ _ _ h => lc_tw _ _ _ (tw_frz _ _ _ h)) evA_ok)
theorem sp_lcP (hc : X.calm = true) (hN : X.N.Nodup) (hy : X.N[i]? = some y) (hyl : X.env.scope.names.lookup y = some .local) (hsw : swapsWith (.ListComp elt [⟨tg, iter, ifs, 0⟩] scope pos) (some (.Name y py)) spos.line X.env = pure true) (hi : PI X tg iter (tI G mi)) (ok : BlkOk X.N X.env.scope scope own)
    (hg : ∀ (s : Shared) (H : Hp) (C : Addr) (cl : List (Str × Addr)) (fp : List Addr), PG (X.blk s H scope (compEnvC scope cl C X.env) fp) tg (tG G g)) (ht : ∀ (s : Shared) (H : Hp) (C : Addr) (cl : List (Str × Addr)) (fp : List Addr), PTs (X.blk s H scope (compEnvC scope cl C X.env) fp) ifs (tT G mt))
    (he : ∀ (s : Shared) (H : Hp) (C : Addr) (cl : List (Str × Addr)) (fp : List Addr), PE (X.blk s H scope (compEnvC scope cl C X.env) fp) elt (tE G me)) (hs : ∀ x, foldedSetIterable iter X.env x = pure x := by intro _; rfl) :
    PS X (.Assign [.Name y py] (.ListComp elt [⟨tg, iter, ifs, 0⟩] scope pos) spos) (tSS G (mNew i (evP (mComp (own.map (·.2)) mi g mt me)))) :=
  sp_nameP (ps_setLc hc hN hy hyl hsw hi ok hg ht he hs) (EvP.imp lc_tw evP_ok)
theorem sp_lcSD {S : SS} {J : Addr → Obj → List (Key × V) → It} {sel : List (Key × D) → List D} (hT : Told G te ma) (hS : SOk S J) (hw : WkD G J sel) (hc : X.calm = true) (hN : X.N.Nodup) (hy : X.N[i]? = some y) (hyl : X.env.scope.names.lookup y = some .local) (hsw : swapsWith (.ListComp elt [⟨tg, iter, ifs, 0⟩] scope pos) (some (.Name y py)) spos.line X.env = pure true) (hi : PI X tg iter fun σ H R => te σ H fun x H1 => S x H1 R) (ok : BlkOk X.N X.env.scope scope own)
    (hg : ∀ (s : Shared) (H : Hp) (C : Addr) (cl : List (Str × Addr)) (fp : List Addr), PG (X.blk s H scope (compEnvC scope cl C X.env) fp) tg (tG G g)) (ht : ∀ (s : Shared) (H : Hp) (C : Addr) (cl : List (Str × Addr)) (fp : List Addr), PTs (X.blk s H scope (compEnvC scope cl C X.env) fp) ifs (tT G mt))
    (he : ∀ (s : Shared) (H : Hp) (C : Addr) (cl : List (Str × Addr)) (fp : List Addr), PE (X.blk s H scope (compEnvC scope cl C X.env) fp) elt (tE G me)) (hs : ∀ x, foldedSetIterable iter X.env x = pure x := by intro _; rfl) :
    PS X (.Assign [.Name y py] (.ListComp elt [⟨tg, iter, ifs, 0⟩] scope pos) spos) (tSS G (mSet (gN i) (evA (mFz (mComp (own.map (·.2)) (mLkI sel ma) g mt me))))) :=
  sp_nameS (ps_orLock (ps_setLc hc hN hy hyl hsw hi ok hg ht he hs)) (EvS.imp (fun _ _ _ h => lcD_tw hT hS hw _ _ _ (tw_frz _ _ _ h)) evA_ok)
theorem sp_lcPD {S : SS} {J : Addr → Obj → List (Key × V) → It} {sel : List (Key × D) → List D} (hT : Told G te ma) (hS : SOk S J) (hw : WkD G J sel) (hc : X.calm = true) (hN : X.N.Nodup) (hy : X.N[i]? = some y) (hyl : X.env.scope.names.lookup y = some .local) (hsw : swapsWith (.ListComp elt [⟨tg, iter, ifs, 0⟩] scope pos) (some (.Name y py)) spos.line X.env = pure true) (hi : PI X tg iter fun σ H R => te σ H fun x H1 => S x H1 R) (ok : BlkOk X.N X.env.scope scope own)
    (hg : ∀ (s : Shared) (H : Hp) (C : Addr) (cl : List (Str × Addr)) (fp : List Addr), PG (X.blk s H scope (compEnvC scope cl C X.env) fp) tg (tG G g)) (ht : ∀ (s : Shared) (H : Hp) (C : Addr) (cl : List (Str × Addr)) (fp : List Addr), PTs (X.blk s H scope (compEnvC scope cl C X.env) fp) ifs (tT G mt))
    (he : ∀ (s : Shared) (H : Hp) (C : Addr) (cl : List (Str × Addr)) (fp : List Addr), PE (X.blk s H scope (compEnvC scope cl C X.env) fp) elt (tE G me)) (hs : ∀ x, foldedSetIterable iter X.env x = pure x := by intro _; rfl) :
    PS X (.Assign [.Name y py] (.ListComp elt [⟨tg, iter, ifs, 0⟩] scope pos) spos) (tSS G (mNew i (evP (mComp (own.map (·.2)) (mLkI sel ma) g mt me)))) :=
  sp_nameP (ps_orLock (ps_setLc hc hN hy hyl hsw hi ok hg ht he hs)) (EvP.imp (lcD_tw hT hS hw) evP_ok)
end
end Nb
set_option Elab.async false
set_option linter.all false
set_option maxRecDepth 100000
namespace Nb
open PySem PySem.Spec PyProof.Rows L2 RZ
section
variable {X : Cx} {G : Gx} {a b : Expr} {ta tb : TE} {ea eb : TauS → M Sv} {x y : Str} {i j k1 k2 : Nat} {p1 p2 tpos epos pos : Pos}
theorem sp_par (hc : X.calm = true) (ha : PE X a ta) (hb : PE X b tb) (hva : EvR G ta ea) (hvb : EvR G tb eb) (hN : X.N.Nodup) (hi : X.N[i]? = some x) (hj : X.N[j]? = some y) (ij : i ≠ j) (hx : X.env.scope.names.lookup x = some .local) (hy : X.env.scope.names.lookup y = some .local)
    (hw : swappedStores [.Tuple [.Name x p1, .Name y p2] k1 tpos] (.Tuple [a, b] k2 epos) X.env = pure (some [x, y]) := by rfl)
    (hs : swapsWithSole [.Tuple [.Name x p1, .Name y p2] k1 tpos] (.Tuple [a, b] k2 epos) pos.line X.env = pure false := by rfl)
    (hss : starEach [a, b] X.env = (false, eval a X.env) :: starEach [b] X.env := by rfl) (hss2 : starEach [b] X.env = (false, eval b X.env) :: starEach [] X.env := by rfl) :
    PS X (.Assign [.Tuple [.Name x p1, .Name y p2] k1 tpos] (.Tuple [a, b] k2 epos) pos) (tSS G (mTwo i j ea eb)) :=
  PS.mono (ps_par hc hN hi hj ij hx hy (pa_cons ha (pa_cons hb pa_nil hss2) hss) hw hs) fun E σ H h => by
    obtain ⟨r, H0, F0, F, W, τ, R, x, o, k, q⟩ := h
    unfold mTwo at q
    cases e1 : ea τ R with
    | none => rw [e1] at q; exact q.elim
    | some y1 =>
      rw [e1] at q
      dsimp only at q
      cases e2 : eb τ y1.2 with
      | none => rw [e2] at q; exact q.elim
      | some y2 =>
        rw [e2] at q
        dsimp only at q
        refine hva r H0 F0 F W τ R y1.1 y1.2 σ H _ x o k e1 fun v1 H1 F1 A1 s1 n1 nb1 o1 x1 => ?_
        refine hvb r H0 F0 F1 W τ y1.2 y2.1 y2.2 σ H1 _ (x.trans o x1) o1 (k.ext o x1) e2 fun v2 H2 F2 A2 s2 n2 nb2 o2 x2 => ?_
        refine ⟨v1, v2, rfl, ?_⟩
        have k2 := (k.ext o x1).ext o1 x2
        have xx : Ext r F0 H0 F2 H2 := (x.trans o x1).trans o1 x2
        have f1 : ∀ a, A1 a → ¬ F2 a ∧ r ≠ some a ∧ H0 a = none ∧ (∀ j, ¬ W j a) ∧ (∃ u, H2 a = some u) ∧ ∃ u, H1 a = some u := fun a ha => by
          obtain ⟨b1, b2, u, b3⟩ := n1 a ha
          obtain ⟨c1, c2, c3⟩ := new_facts x o k b1
          refine ⟨fun f => ?_, c1, c2, c3, ⟨u, x2.same a u b3 c1⟩, u, b3⟩
          rcases x2.new a f with f | f
          · exact b2 f
          · rw [b3] at f; cases f
        have f2 : ∀ a, A2 a → ¬ F2 a ∧ r ≠ some a ∧ H0 a = none ∧ (∀ j, ¬ W j a) ∧ (∃ u, H2 a = some u) ∧ H1 a = none := fun a ha => by
          obtain ⟨b1, b2, u, b3⟩ := n2 a ha
          obtain ⟨c1, c2, c3⟩ := new_facts (x.trans o x1) o1 (k.ext o x1) b1
          exact ⟨b2, c1, c2, c3, ⟨u, b3⟩, b1⟩
        have g1 : SvAt G r F2 H2 A1 y1.1 v1 := s1.mono x2.mono (x2.kp o1) fun a ha u hu => x2.same a u hu (f1 a ha).2.1
        have k4 := k2.adoptR (i := i) g1 (fun a ha => let ⟨h1, h2, h3, h4, h5, _⟩ := f1 a ha; ⟨h1, h2, h3, h4, h5⟩) nb1
        have k5 := k4.adoptR (i := j) s2 (fun a ha => by
          obtain ⟨h1, h2, h3, h4, h5, h6⟩ := f2 a ha
          refine ⟨h1, h2, h3, fun l w => ?_, h5⟩
          by_cases hl : l = i
          · subst hl
            rw [setW_same] at w
            obtain ⟨_, _, _, _, _, u, z⟩ := f1 a w
            rw [h6] at z; cases z
          · rw [setW_ne hl] at w
            exact h4 l w) nb2
        exact q _ _ F2 _ ((x1.st o).trans (x2.st o1)) xx o2 k5
end
end Nb
set_option Elab.async false
set_option linter.all false
set_option maxRecDepth 100000
set_option maxHeartbeats 4000000
namespace Nb
open PySem PySem.Spec PyProof.Rows L2 RZ
/-! ### exceptions of own classes as values of the layer -/
/-- __init__: the fields fs get the arguments -/
def spX (C : Addr) (fs : List Str) : Sp := fun vs H Q _ => ∃ (a : Addr) (us : List V), vs = .ref a :: us ∧ us.length = fs.length ∧ H a = some (exo a C none) ∧
  ∀ (H' : Hp) (dx : Addr) (gs : List (Str × V)), H dx = none → dx ≠ a → H' a = some (exo a C (some dx)) → H' dx = some (exd dx gs) → (∀ b, b ≠ a → b ≠ dx → H' b = H b) →
    (∀ (i : Nat) f w, fs[i]? = some f → us[i]? = some w → gs.lookup f = some w) → Q .non H'
section
variable {P : Program} {w : World} {K : PySem.W.Frag} {mg : Str → Option Value} {base : Heap} {qual : Str} {st : Stmt} {fI C : Addr} {fd : FuncData} {f g : Str}
theorem vis_of {sc : Scope} {x : Str} (h : sc.names.lookup x = some .local ∨ sc.names.lookup x = some .cell) : Vis sc x := h.imp id .inl
theorem init1_ok (T : OexC K C) (hno : PySem.W.findIn K (.ref C) f = some none) (Fn : FunG K "__init__" qual st fI fd) (S : FnScope ["self", f] ["self", f] (defScope st))
    (hb : ∃ p1 p2 p3 p4, defBody st = [.Assign [.Attribute (.Name "self" p1) f p2] (.Name f p3) p4]) (hd : (f == ("__debug__" : Str)) = false := by decide) (hc : (f == ("__classdict__" : Str)) = false := by decide) :
    FnOk P w K mg base CX0 1 fI fd ["self", f] (spX C [f]) := by
  obtain ⟨p1, p2, p3, p4, hb⟩ := hb
  refine Fn.ok S (fun vs H Q E h => ?_) (fun cdv A outer s H vs Q E hr h => ⟨_, by
    rw [hb]
    exact pss_one (ps_ost (pe_var (i := 0) rfl (vis_of (S.par "self" (by simp)))) (pe_var (i := 1) rfl (vis_of (S.par f (by simp))) hd hc)), ?_⟩)
  · obtain ⟨a, us, rfl, hl, _⟩ := h
    simp [hl]
  · obtain ⟨a, us, rfl, hl, ha, q⟩ := h
    match us, hl with
    | [u], _ =>
      refine ⟨u, rfl, .ref a, rfl, a, C, rfl, T, hno, .inl ⟨ha, fun dx hdx ne => ?_⟩⟩
      refine q _ dx [(f, u)] hdx ne upd_same (by rw [upd_ne ne]; exact upd_same) (fun b h1 h2 => by rw [upd_ne h1, upd_ne h2]) ?_
      intro i k v h1 h2
      match i with
      | 0 => simp at h1 h2; subst h1; subst h2; simp [List.lookup]
      | i + 1 => simp at h1
theorem init2_ok (T : OexC K C) (hf : PySem.W.findIn K (.ref C) f = some none) (hg : PySem.W.findIn K (.ref C) g = some none) (Fn : FunG K "__init__" qual st fI fd) (S : FnScope ["self", f, g] ["self", f, g] (defScope st))
    (hb : ∃ p1 p2 p3 p4 q1 q2 q3 q4, defBody st = [.Assign [.Attribute (.Name "self" p1) f p2] (.Name f p3) p4, .Assign [.Attribute (.Name "self" q1) g q2] (.Name g q3) q4]) (hfg : f ≠ g)
    (hd : (f == ("__debug__" : Str)) = false := by decide) (hc : (f == ("__classdict__" : Str)) = false := by decide) (hd2 : (g == ("__debug__" : Str)) = false := by decide) (hc2 : (g == ("__classdict__" : Str)) = false := by decide) :
    FnOk P w K mg base CX0 1 fI fd ["self", f, g] (spX C [f, g]) := by
  obtain ⟨p1, p2, p3, p4, q1, q2, q3, q4, hb⟩ := hb
  refine Fn.ok S (fun vs H Q E h => ?_) (fun cdv A outer s H vs Q E hr h => ⟨_, by
    rw [hb]
    exact pss_cons (ps_ost (pe_var (i := 0) rfl (vis_of (S.par "self" (by simp)))) (pe_var (i := 1) rfl (vis_of (S.par f (by simp))) hd hc))
      (pss_one (ps_ost (pe_var (i := 0) rfl (vis_of (S.par "self" (by simp)))) (pe_var (i := 2) rfl (vis_of (S.par g (by simp))) hd2 hc2))), ?_⟩)
  · obtain ⟨a, us, rfl, hl, _⟩ := h
    simp [hl]
  · obtain ⟨a, us, rfl, hl, ha, q⟩ := h
    match us, hl with
    | [u, v], _ =>
      refine ⟨u, rfl, .ref a, rfl, a, C, rfl, T, hf, .inl ⟨ha, fun dx hdx ne => ?_⟩⟩
      refine ⟨v, rfl, .ref a, rfl, a, C, rfl, T, hg, .inr ⟨dx, [(f, u)], upd_same, by rw [upd_ne ne]; exact upd_same, (by show 1 ≤ 900; decide), ?_⟩⟩
      refine q _ dx [(g, v), (f, u)] hdx ne (by rw [upd_ne (Ne.symm ne)]; exact upd_same) upd_same (fun b h1 h2 => by rw [upd_ne h2, upd_ne h1, upd_ne h2]) ?_
      intro i k z h1 h2
      have e : (f == g) = false := by simpa using hfg
      match i with
      | 0 => simp at h1 h2; subst h1; subst h2; simp [List.lookup, e]
      | 1 => simp at h1 h2; subst h1; subst h2; simp [List.lookup]
      | i + 2 => simp at h1
end
/-- what is known of an own exception class c with the fields fs, one at least -/
structure ExnOk (P : Program) (w : World) (K : PySem.W.Frag) (mg : Str → Option Value) (base : Heap) (G : Gx) (c : Str) (fs : List Str) : Prop where
  cls : OexC K (G.ca c)
  glo : mg c = some (.ref (G.ca c))
  fl : G.fl c = fs
  few : fs.length ≤ 1000
  ini : ∃ fI fd, PySem.W.findIn K (.ref (G.ca c)) "__init__" = some (some (.ref fI)) ∧ PySem.W.typeIn K (.ref fI) = some (.type "function") ∧ FnOk P w K mg base CX0 1 fI fd ("self" :: fs) (spX (G.ca c) fs) ∧
    KBn K fd ("self" :: fs) (fs.length + 1) [] (fun us _ => us) (fun vs _ => vs) ∧ KBn K fd ("self" :: fs) 1 fs.reverse (fun us ws => us ++ ws.reverse) (fun vs zs => vs ++ zs.reverse)
def mMkx (c : Str) (n : Nat) (ms : Tau → M (List D)) : ME := fun τ => do let xs ← ms τ; opt (if xs.length = n then some (.exn c xs) else none)
def mMkk (c : Str) (n : Nat) (ms : Tau → M (List D)) : ME := fun τ => do let xs ← ms τ; opt (if xs.length = n then some (.exn c xs.reverse) else none)
theorem mkx_core {G : Gx} {c : Str} {fs : List Str} {r : Option Addr} {F : Fz} {H : Hp} {R : Sr} {ds : List D} {us : List V} {Q : VK} {E : XK} (hfl : G.fl c = fs) (ru : RepL G r F H ds us) (hn : ds.length = fs.length) (o : Ok1 r F H R)
    (q : ∀ v H' F', Rep G r F' H' (.exn c ds) v → Ok1 r F' H' R → Ext r F H F' H' → Q v H') :
    ∀ a, H a = none → spX (G.ca c) fs (.ref a :: us) (upd H a (exo a (G.ca c) none)) (fun v H3 => v = .non ∧ Q (.ref a) H3) E := by
  intro a na
  refine ⟨a, us, rfl, by rw [← ru.length]; exact hn, upd_same, fun H' dx gs ndx ne ha hd hb hl => ⟨rfl, ?_⟩⟩
  have nd : H dx = none := by rw [upd_ne ne] at ndx; exact ndx
  have old : ∀ b u, H b = some u → H' b = some u := fun b u h => by
    have n1 : b ≠ a := ne_of_none h na
    have n2 : b ≠ dx := ne_of_none h nd
    rw [hb b n1 n2, upd_ne n1]; exact h
  refine q (.ref a) H' (fun b => F b ∨ b = a ∨ b = dx) ?_ ⟨fun b h => ?_, ?_⟩ ⟨fun b h => .inl h, fun b u h _ => old b u h, fun b h => ?_⟩
  · simp only [Rep]
    refine ⟨a, us, rfl, ⟨.inr (.inl rfl), .inr ⟨dx, gs, .inr (.inr rfl), ha, hd, by rw [hfl]; exact hl⟩⟩, ?_⟩
    exact RepL.mono (fun b h => .inl h) (fun b _ => .of fun u h => old b u h) ds us ru
  · rcases h with h | h | h
    · obtain ⟨u, e⟩ := o.fz b h
      exact ⟨u, old b u e⟩
    · exact ⟨_, by rw [h]; exact ha⟩
    · exact ⟨_, by rw [h]; exact hd⟩
  · have s := o.sr
    cases R with
    | none => exact s
    | some ns =>
      obtain ⟨b, e1, e2, e3⟩ := s
      refine ⟨b, e1, old _ _ e2, fun h => ?_⟩
      rcases h with h | h | h
      · exact e3 h
      · rw [h, na] at e2; cases e2
      · rw [h, nd] at e2; cases e2
  · rcases h with h | h | h
    · exact .inl h
    · exact .inr (by rw [h]; exact na)
    · exact .inr (by rw [h]; exact nd)
section
variable {X : Cx} {G : Gx} {a b e o : Expr} {es : List Expr} {kws : List Keyword} {ma mb m : ME} {ms : Tau → M (List D)} {p pos apos : Pos} {c : Str} {fs : List Str}
theorem PK.mono {t t' : TA} (h : PK X kws t) (k : ∀ σ H Q, t' σ H Q → t σ H Q) : PK X kws t' := ⟨fun p pins s σ H Q I q => h.run p pins s σ H Q I (k σ H Q q)⟩
theorem sk_nil : PK X [] (tA G fun _ => pure []) := PK.mono pk_nil fun σ H Q h => by
  obtain ⟨r, F, τ, R, d, R', ht, ho, e, q⟩ := h
  cases e
  exact q [] H F (by simp only [RepL]) ho .refl
theorem sk_cons {nm : Option Str} {kpos : Pos} (he : PE X e (tE G m)) (hr : PK X kws (tA G ms)) : PK X (⟨nm, e, kpos⟩ :: kws) (tA G (mCons m ms)) := PK.mono (pk_cons he hr) fun σ H Q h => by
  obtain ⟨r, F, τ, R, d, R', ht, ho, e, q⟩ := h
  obtain ⟨x, R1, e1, e2⟩ := M.bind_some e
  obtain ⟨xs, Rb, e3, e4⟩ := M.bind_some e2
  obtain ⟨rfl, rfl⟩ : x :: xs = d ∧ Rb = R' := by
    have e5 := Option.some.inj (show some (x :: xs, Rb) = some (d, R') from e4)
    exact ⟨congrArg Prod.fst e5, congrArg Prod.snd e5⟩
  refine ⟨r, F, τ, R, x, R1, ht, ho, e1, fun u H1 F1 ru o1 x1 => ⟨r, F1, τ, R1, xs, Rb, ht.ext ho x1, o1, e3, fun vs H2 F2 rv o2 x2 => ?_⟩⟩
  refine q (u :: vs) H2 F2 ?_ o2 (x1.trans o1 x2)
  simp only [RepL]
  exact ⟨u, vs, rfl, x2.rep o1 ru, rv⟩
/-- C(e, ..) -/
theorem se_mkx (U : ExnOk X.prog X.w X.K X.mg X.base G c fs) (hr : Room 2 X.A) (ha : PA X (e :: es) (tA G ms)) (hx : Passes CX0 X E0) (hg : Gl X c := by rfl)
    (hdb : (c == ("__debug__" : Str)) = false := by decide) (hs : starEach (e :: es) X.env = (false, eval e X.env) :: starEach es X.env := by rfl) (hpl : (backTo pos (starEach es X.env)).any (·.1) = false := by rfl) :
    PE X (.Call (.Name c p) (e :: es) [] pos) (tE G (mMkx c fs.length ms)) := by
  obtain ⟨fI, fd, h1, h2, h3, h4, h5⟩ := U.ini
  refine PE.mono (pe_mkE1 (n := fs.length) U.cls h1 h2 h3 hr hg U.glo h4 hx ha hdb hs hpl) fun σ H Q h => ?_
  refine tA.one (k := fun xs => opt (if xs.length = fs.length then some (.exn c xs) else none)) h fun r F R xs us H1 d R' o ru e q => ?_
  obtain ⟨e0, rfl⟩ := opt_some e
  split at e0
  · rename_i hl
    cases e0
    exact ⟨by rw [← ru.length]; exact hl, rfl, U.few, mkx_core U.fl ru hl o q⟩
  · cases e0
/-- C(k = e, ..), the keywords from the last field to the first -/
theorem se_mkk (U : ExnOk X.prog X.w X.K X.mg X.base G c fs) (hr : Room 2 X.A) (hkw : PK X kws (tA G ms)) (hx : Passes CX0 X E0) (hks : (backToKw pos (keywordEach kws X.env)).filterMap (·.1) = fs.reverse := by rfl) (hg : Gl X c := by rfl)
    (hall : (backToKw pos (keywordEach kws X.env)).all (·.1.isSome) = true := by rfl) (hdb : (c == ("__debug__" : Str)) = false := by decide)
    (hpl : ((backTo pos (starEach [] X.env)).any (·.1) || (backToKw pos (keywordEach kws X.env)).any (·.1.isNone)) = false := by rfl) :
    PE X (.Call (.Name c p) [] kws pos) (tE G (mMkk c fs.length ms)) := by
  obtain ⟨fI, fd, h1, h2, h3, h4, h5⟩ := U.ini
  refine PE.mono (pe_mkEk U.cls h1 h2 h3 hr hg U.glo h5 hx hkw hall hks hdb hpl) fun σ H Q h => ?_
  show tA G ms σ H _
  refine tA.one (k := fun xs => opt (if xs.length = fs.length then some (.exn c xs.reverse) else none)) h fun r F R xs us H1 d R' o ru e q => ?_
  obtain ⟨e0, rfl⟩ := opt_some e
  split at e0
  · rename_i hl
    cases e0
    have z := mkx_core (E := fun _ _ _ => False) U.fl ru.reverse (by rw [List.length_reverse]; exact hl) o q
    exact ⟨rfl, by rw [← ru.length, List.length_reverse]; exact hl, by decide, z⟩
  · cases e0
/-- C(), C without own __init__ -/
theorem se_mk0 (q : PySem.W.excIn X.K (G.ca c) [.type "ValueError", .type "Exception", .type "BaseException", .type "object"] "ValueError.__new__" = true) (gC : X.mg c = some (.ref (G.ca c))) (kC : PySem.W.keepIn X.K (.ref (G.ca c)) = true) (hg : Gl X c := by rfl) (hdb : (c == ("__debug__" : Str)) = false := by decide) :
    PE X (.Call (.Name c p) [] [] pos) (tE G (mC (.exn c []))) := PE.mono (pe_mkE0 F.excBase_ValueError q gC kC hg hdb) fun σ H Q h => by
  obtain ⟨r, F, τ, R, d, R', ht, ho, e, q⟩ := h
  cases e
  intro a na
  have nf := new_frozen (o := exo a (G.ca c) none) ho na
  refine q (.ref a) _ _ ?_ nf.1 nf.2
  simp only [Rep]
  exact ⟨a, [], rfl, ⟨.inr rfl, .inl ⟨rfl, upd_same⟩⟩, by simp only [RepL]⟩
/-! e.f -/
theorem pe_xfD {x : Str} {te : TE} (he : PE X e te) (hb : attributeBase e x X.env (eval e X.env) = eval e X.env := by rfl) :
    PE X (.Attribute e x pos) (fun σ H Q => te σ H fun v H1 => ∃ (C a dx : Addr) (fs : List (Str × V)) (w : V), XfC X.K C ∧ PySem.W.findIn X.K (.ref C) x = some none ∧ v = .ref a ∧ H1 a = some (exo a C (some dx)) ∧ H1 dx = some (exd dx fs) ∧ fs.lookup x = some w ∧ Q w H1) := by
  refine ⟨fun pins s σ H Q I h => ?_⟩
  refine attr_of hb (thn (he.run pins s σ H _ I h) fun u s1 hh => ?_)
  obtain ⟨v, H1, I1, rx, C, a, dx, fs, w, T, hno, rfl, ea, ed, l, q⟩ := hh
  obtain rfl : u = Value.ref a := rx
  obtain ⟨t1, ho⟩ := exo_at I1.hok ea
  obtain ⟨mA, hns, hr⟩ := exd_at I1.hok ed
  obtain ⟨od, hod, hl⟩ := lookIn_ns hns
  obtain ⟨u, hu, ru⟩ := RelO.some_of (v := w) (o := mA x) (by rw [← l]; exact hr x)
  have J : PySem.W.InstAt s1.heap a { cls := .ref C, dict := some dx, data := .fields #[.ref t1, .none, .none, .none, .bool false, .none] } C (some od) := ⟨ho, rfl, rfl, hod⟩
  exact HandSPX.exc_get I1.kIn J T.ga T.gg T.exC (PySem.W.findObj_own T.hdC hno rfl (by rw [hl, hu])) (handed_of ru) ⟨w, H1, I1.tok _, ru, q⟩
/-- the classes, with their fields -/
abbrev XTab := List (Str × List Str)
def xfD (tab : XTab) (f : Str) : D → Option D
  | .exn c ds => (tab.lookup c).bind fun fs => (fs.findIdx? fun g => decide (g = f)).bind fun i => ds[i]?
  | _ => none
structure XfT (K : PySem.W.Frag) (G : Gx) (tab : XTab) : Prop where
  all : ∀ c fs, tab.lookup c = some fs → XfC K (G.ca c) ∧ G.fl c = fs ∧ ∀ f ∈ fs, PySem.W.findIn K (.ref (G.ca c)) f = some none
theorem se_xf {f : Str} {tab : XTab} (T : XfT X.K G tab) (he : PE X e (tE G m)) (hb : attributeBase e f X.env (eval e X.env) = eval e X.env := by rfl) : PE X (.Attribute e f pos) (tE G (mFun1 (xfD tab f) m)) :=
  PE.mono (pe_xfD he hb) fun σ H Q h => tE.one (k := fun x => opt (xfD tab f x)) h fun r F R x u H1 d R' o ru e q => by
    obtain ⟨e0, rfl⟩ := opt_some e
    unfold xfD at e0
    split at e0
    · rename_i c ds
      cases e1 : tab.lookup c with
      | none => rw [e1] at e0; cases e0
      | some fs =>
        rw [e1] at e0
        have e0 : ((fs.findIdx? fun g => decide (g = f)).bind fun i => ds[i]?) = some d := e0
        cases e2 : fs.findIdx? fun g => decide (g = f) with
        | none => rw [e2] at e0; cases e0
        | some i =>
          rw [e2] at e0
          have e0 : ds[i]? = some d := e0
          obtain ⟨t1, t2, t3⟩ := T.all c fs e1
          have e3 : fs[i]? = some f := by
            obtain ⟨hi, h1, _⟩ := List.findIdx?_eq_some_iff_getElem.mp e2
            rw [List.getElem?_eq_getElem hi, of_decide_eq_true h1]
          simp only [Rep] at ru
          obtain ⟨a, vs, rfl, ⟨fa, h⟩, rl⟩ := ru
          obtain ⟨w, h1, h2⟩ := rl.get e0
          rcases h with ⟨rfl, _⟩ | ⟨dx, gs, fdx, ha, hd, hl⟩
          · simp at h1
          · exact ⟨_, a, dx, gs, w, t1, t3 f (List.mem_of_getElem? e3), rfl, ha, hd, hl i f w (by rw [t2]; exact e3) h1, q w H1 F h2 o .refl⟩
    · cases e0
/-! isinstance(e, c) of such -/
/-- every one is of its own class, of those in sup, and of no other one of the table -/
def isxD (names : List Str) (sup : List Str) (tys : List String) : List D → Option D
  | [.exn c _, .cls c2] => if names.contains c && (names.contains c2 || sup.contains c2) then some (.bl (decide (c = c2) || sup.contains c2)) else none
  | [.exn c _, .ty n] => if names.contains c && tys.contains n then some (.bl true) else none
  | _ => none
structure IsT (K : PySem.W.Frag) (G : Gx) (names sup : List Str) (tys : List String) : Prop where
  ex : ∀ c, names.contains c = true → ExcC K (G.ca c)
  is : ∀ c c2, names.contains c = true → (names.contains c2 || sup.contains c2) = true → PySem.W.kitOne K (.ref (G.ca c)) (.ref (G.ca c2)) = some (decide (c = c2) || sup.contains c2)
  ty : ∀ c n, names.contains c = true → tys.contains n = true → PySem.W.kitOne K (.ref (G.ca c)) (.type n) = some true
theorem d_isx {K : PySem.W.Frag} {names sup : List Str} {tys : List String} (T : IsT K G names sup tys) : CallD G (rIsO K) (isxD names sup tys) := by
  have key : ∀ {r : Option Addr} {F : Fz} {H : Hp} {c : Str} {ds : List D} {u : V}, Rep G r F H (.exn c ds) u → ∃ (a : Addr) (d : Option Addr), u = .ref a ∧ H a = some (exo a (G.ca c) d) ∧ ∀ dx, d = some dx → ∃ fs, H dx = some (exd dx fs) := by
    intro r F H c ds u h
    simp only [Rep] at h
    obtain ⟨a, vs, rfl, ⟨fa, h⟩, rl⟩ := h
    rcases h with ⟨_, h⟩ | ⟨dx, gs, fdx, ha, hd, hl⟩
    · exact ⟨a, none, rfl, h, fun _ z => nomatch z⟩
    · exact ⟨a, some dx, rfl, ha, fun _ z => by cases z; exact ⟨gs, hd⟩⟩
  intro r F H R xs us d Q o ru e q
  unfold isxD at e
  split at e
  · rename_i c ds c2
    split at e
    · rename_i hc
      obtain ⟨h1, h2⟩ := Bool.and_eq_true_iff.mp hc
      cases e
      simp only [RepL] at ru
      obtain ⟨u, _, rfl, ra, v, _, rfl, rb, rfl⟩ := ru
      obtain ⟨a, dd, rfl, ha, hd⟩ := key ra
      simp only [Rep] at rb
      subst rb
      exact ⟨a, G.ca c, dd, _, .ref (G.ca c2), _, rfl, ha, hd, T.ex c h1, fun u h => h, T.is c c2 h1 h2, q _ H F (by simp only [Rep]) o .refl⟩
    · cases e
  · rename_i c ds n
    split at e
    · rename_i hc
      obtain ⟨h1, h2⟩ := Bool.and_eq_true_iff.mp hc
      cases e
      simp only [RepL] at ru
      obtain ⟨u, _, rfl, ra, v, _, rfl, rb, rfl⟩ := ru
      obtain ⟨a, dd, rfl, ha, hd⟩ := key ra
      simp only [Rep] at rb
      subst rb
      exact ⟨a, G.ca c, dd, _, .type n, _, rfl, ha, hd, T.ex c h1, fun u h => h, T.ty c n h1 h2, q _ H F (by simp only [Rep]) o .refl⟩
    · cases e
  · cases e
theorem se_isx {names sup : List Str} {tys : List String} (T : IsT X.K G names sup tys) (hm : X.mg "isinstance" = none) (ha : PA X (e :: es) (tA G ms)) (hg : Gl X "isinstance" := by rfl)
    (hs : starEach (e :: es) X.env = (false, eval e X.env) :: starEach es X.env := by rfl) (hpl : (backTo pos (starEach es X.env)).any (·.1) = false := by rfl) :
    PE X (.Call (.Name "isinstance" p) (e :: es) [] pos) (tE G (mFun (isxD names sup tys) ms)) :=
  se_callB call_isO (d_isx T) hg hm (by decide +kernel) ha (by decide) (by decide) hs hpl
/-! a list, over and over -/
def repD : D → D → Option D
  | .lst ds, .int k => if -(2 ^ 63) ≤ k ∧ k < 2 ^ 63 ∧ ds.length * k.toNat ≤ 16000000 then some (.lst (List.replicate k.toNat ds).flatten) else none
  | _, _ => none
theorem RepL.rep {r F H} {ds : List D} {vs : List V} (h : RepL G r F H ds vs) : ∀ n : Nat, RepL G r F H (List.replicate n ds).flatten (List.replicate n vs).flatten
  | 0 => by simp [RepL]
  | n + 1 => by
    rw [List.replicate_succ, List.replicate_succ, List.flatten_cons, List.flatten_cons]
    exact h.append (RepL.rep h n)
theorem d_rep : OpD G rRep repD := by
  intro r F H R x y u v d Q o ru rv e q
  unfold repD at e
  split at e
  · rename_i ds k
    split at e
    · rename_i hl
      cases e
      simp only [Rep] at ru rv
      obtain ⟨p, vs, rfl, l, q1⟩ := ru
      refine ⟨p, k, vs, rfl, rv, l.2, hl.1, hl.2.1, by rw [← q1.length, sizeLine_eq]; omega, fun n hn => ?_⟩
      exact q _ _ _ (rep_lst o hn (q1.rep _)) (new_frozen o hn).1 (new_frozen o hn).2
    · cases e
  · cases e
def mulD : D → D → Option D := orF mulI repD
theorem se_mulL (ha : PE X a (tE G ma)) (hb : PE X b (tE G mb)) : PE X (.BinOp a .Mult b pos) (tE G (mOp mulD ma mb)) := se_op (op_mul.or op_rep) (d_mulI.or d_rep) ha hb
/-! -e -/
def negD : D → Option D | .int i => some (.int (-i)) | _ => none
theorem se_neg (ha : PE X a (tE G ma)) : PE X (.UnaryOp .USub a pos) (tE G (mFun1 negD ma)) := PE.mono (pe_un un_neg ha) fun σ H Q h => tE.one (k := fun x => opt (negD x)) h fun r F R x u H1 d R' o ru e q => by
  obtain ⟨e0, rfl⟩ := opt_some e
  unfold negD at e0
  split at e0
  · cases e0
    simp only [Rep] at ru
    exact ⟨_, ru, q _ H1 F (by simp only [Rep]) o .refl⟩
  · cases e0
/-! {k: e} -/
def mDict1 (mk mv : ME) : ME := fun τ => do let k ← mk τ; let v ← mv τ; opt ((keyD k).map fun j => .dct [(j, v)])
theorem se_dict1 {k v : Expr} {mk mv : ME} (hk : PE X k (tE G mk)) (hv : PE X v (tE G mv)) : PE X (.Dict [some k] [v] pos) (tE G (mDict1 mk mv)) :=
  PE.mono (pe_disp (pps_cons hk hv pps_nil) rfl rfl (by simp) (by show 1 ≤ 15; decide)) fun σ H Q h => by
    obtain ⟨r, F, τ, R, d, R', ht, ho, e, q⟩ := h
    obtain ⟨x, R1, e1, e2⟩ := M.bind_some e
    obtain ⟨y, R2, e3, e4⟩ := M.bind_some e2
    obtain ⟨e5, rfl⟩ := opt_some e4
    intro p np
    have nw := new_own (o := .dK []) ho np
    refine ⟨r, F, τ, R, x, R1, ht.ext ho nw.2, nw.1, e1, fun u H1 F1 ru o1 x1 => ⟨r, F1, τ, R1, y, _, (ht.ext ho nw.2).ext nw.1 x1, o1, e3, fun v H2 F2 rv o2 x2 => ?_⟩⟩
    cases ek : keyD x with
    | none => rw [ek] at e5; cases e5
    | some j =>
      rw [ek] at e5
      cases e5
      have xx := x1.trans o1 x2
      have rp : r ≠ some p := fun z => by obtain ⟨u, h⟩ := ho.srcIn z; rw [np] at h; cases h
      have hp2 : H2 p = some (.dK []) := xx.same p _ upd_same rp
      have nF : ¬ F2 p := fun f => by
        rcases xx.new p f with f | f
        · obtain ⟨u, h⟩ := ho.fz p f; rw [np] at h; cases h
        · rw [upd_same] at f; cases f
      refine ⟨hp2, [(j, v)], by rw [ru.key ek]; rfl, (by show 1 ≤ 15; decide), ?_⟩
      have keep : ∀ b u, H2 b = some u → b ≠ p → upd H2 p (.dK (mergeK [] [(j, v)])) b = some u := fun b u h n => by rw [upd_ne n]; exact h
      refine q (.ref p) _ (fun b => F2 b ∨ b = p) ?_ ⟨fun b h => ?_, ?_⟩ ⟨fun b h => .inl (xx.mono b h), fun b u h n => ?_, fun b h => ?_⟩
      · simp only [Rep]
        refine ⟨p, _, rfl, .inr rfl, .of upd_same, ?_⟩
        show RepK G r _ _ [(j, y)] [(j, v)]
        simp only [RepK]
        exact ⟨v, [], rfl, Rep.mono (fun b h => .inl h) (fun b f => .of fun u h => keep b u h fun z => nF (z ▸ f)) y v rv, rfl⟩
      · rcases h with h | h
        · obtain ⟨u, e⟩ := o2.fz b h
          exact ⟨u, keep b u e fun z => nF (z ▸ h)⟩
        · exact ⟨_, by rw [h]; exact upd_same⟩
      · have s := o2.sr
        cases R' with
        | none => exact s
        | some ns =>
          obtain ⟨b, f1, f2, f3⟩ := s
          exact ⟨b, f1, keep b _ f2 (fun z => rp (z ▸ f1)), fun h => h.elim f3 fun z => rp (z ▸ f1)⟩
      · have n1 : b ≠ p := ne_of_none h np
        exact keep b u (xx.same b u (by rw [upd_ne n1]; exact h) n) n1
      · rcases h with h | h
        · rcases xx.new b h with h' | h'
          · exact .inl h'
          · refine .inr ?_
            by_cases z : b = p
            · rw [z]; exact np
            · rw [upd_ne z] at h'; exact h'
        · exact .inr (by rw [h]; exact np)
/-! x, y, z = a, b, c -/
def EvL (G : Gx) (ta : TA) (ev : TauS → M (List D)) : Prop := ∀ r (H0 : Ht) F0 F W τ R ds R' (σ : L2.St) H (Q : List V → Hp → Prop), Ext r F0 H0 F H → Ok1 r F H R → HoldS G r F H H0 W σ τ → ev τ R = some (ds, R') →
  (∀ vs H' F', RepL G r F' H' ds vs → Ok1 r F' H' R' → Ext r F0 H0 F' H' → Ext r F H F' H' → HoldS G r F' H' H0 W σ τ → Q vs H') → ta σ H Q
def evLA (ms : Tau → M (List D)) : TauS → M (List D) := fun τ => ms (viewA τ)
theorem evLA_ok : EvL G (tA G ms) (evLA ms) := fun r H0 F0 F W τ R d R' σ H Q x o h e q =>
  ⟨r, F, viewA τ, R, d, R', h.viewA, o, e, fun v H' F' rv o' x' => q v H' F' rv o' (x.trans o x') x' (h.ext o x')⟩
def mPar3 (i j l : Nat) (ev : TauS → M (List D)) : MS := fun τ R => match ev τ R with
  | some ([a, b, c], R') => .nx (((τ.set i (some (.val a))).set j (some (.val b))).set l (some (.val c))) R'
  | _ => .stuck
theorem sp_par3 {i j l : Nat} {x y z : Str} {a b c : Expr} {ta : TA} {ev : TauS → M (List D)} {px py pz pt pos : Pos} {kt k2 pt2} (hc : X.calm = true) (ha : PA X [a, b, c] ta) (hv : EvL G ta ev) (hN : X.N.Nodup) (hi : X.N[i]? = some x) (hj : X.N[j]? = some y) (hl : X.N[l]? = some z) (hij : i ≠ j) (hil : i ≠ l) (hjl : j ≠ l)
    (hx : X.env.scope.names.lookup x = some .local) (hy : X.env.scope.names.lookup y = some .local) (hz : X.env.scope.names.lookup z = some .local)
    (hw : swappedStores [.Tuple [.Name x px, .Name y py, .Name z pz] kt pt] (.Tuple [a, b, c] k2 pt2) X.env = pure (some [x, y, z]) := by rfl)
    (hs : swapsWithSole [.Tuple [.Name x px, .Name y py, .Name z pz] kt pt] (.Tuple [a, b, c] k2 pt2) pos.line X.env = pure false := by rfl) :
    PS X (.Assign [.Tuple [.Name x px, .Name y py, .Name z pz] kt pt] (.Tuple [a, b, c] k2 pt2) pos) (tSS G (mPar3 i j l ev)) :=
  PS.mono (ps_par3 hc hN hi hj hl hij hil hjl hx hy hz ha hw hs) fun E σ H h => by
    obtain ⟨r, H0, F0, F, W, τ, R, x, o, k, q⟩ := h
    unfold mPar3 at q
    split at q
    · rename_i d1 d2 d3 R' e1
      refine hv r H0 F0 F W τ R _ R' σ H _ x o k e1 fun vs H' F' rv o' x' xx k' => ?_
      simp only [RepL] at rv
      obtain ⟨v1, _, rfl, r1, v2, _, rfl, r2, v3, _, rfl, r3, rfl⟩ := rv
      exact ⟨v1, v2, v3, rfl, q _ H' F' W (xx.st o) x' o' (((k'.set i r1).set j r2).set l r3)⟩
    · exact q.elim
end
end Nb
set_option Elab.async false
set_option linter.all false
set_option maxRecDepth 100000
set_option maxHeartbeats 4000000
namespace Nb
open PySem PySem.Spec PyProof.Rows L2
/-! ### the head by one run: a look of one's own at the written part, and the defs -/
def obsX (chk : PySem.W.Frag → Bool) (fn : List He.DefD) (K : PySem.W.Frag) : He.AlD := (chk K && fn.all fun d => d.ok K, fn.map fun d => He.fnW K d.at_)
def SaysX (chk : PySem.W.Frag → Bool) (fn : List He.DefD) (K : PySem.W.Frag) : Prop := obsX chk fn K = He.valD fn
/-- what the module's names stand for, the classes' dicts, their methods, the code of all: each once -/
def below (o : Obj) : List Addr := match o.data with
  | .cls cd => [cd.ns]
  | .func fd => He.refV fd.code ++ He.refV fd.defaults
  | _ => []
def dictRefs (o : Obj) : List Addr := match o.data with
  | .dict es _ => es.toList.flatMap fun e => He.refV e.val
  | _ => []
def viaG (g : Addr → Option Obj) (f : Obj → List Addr) (as : List Addr) : List Addr := as.flatMap fun a => match g a with
  | some o => f o
  | none => []
def as4 (a0 a1 a2 a3 a4 : List Addr) : List Addr := a0 ++ (a1 ++ (a2 ++ (a3 ++ a4)))
def reachE3 (g : Addr → Option Obj) (a0 a1 a2 a3 : List Addr) : List Addr := as4 a0 a1 a2 a3 (viaG g below a3)
def reachE2 (g : Addr → Option Obj) (a0 a1 a2 : List Addr) : List Addr := reachE3 g a0 a1 a2 (viaG g dictRefs a2)
def reachE1 (g : Addr → Option Obj) (a0 a1 : List Addr) : List Addr := reachE2 g a0 a1 (viaG g below a1)
def reachE (g : Addr → Option Obj) : List Addr := reachE1 g [mainGlobals] (viaG g dictRefs [mainGlobals])
def obsXG (chk : PySem.W.Frag → Bool) (fn : List He.DefD) (g : Addr → Option Obj) : He.AlD := obsX chk fn (He.frG g (reachE g))
def hookX (chk : PySem.W.Frag → Bool) (fn : List He.DefD) : PySem.W.Hook where
  α := He.AlD
  obs := fun s => obsXG chk fn s.heap.get?
  val := fun _ => He.valD fn
  says := fun _ h => ∃ K : PySem.W.Frag, K.In h ∧ SaysX chk fn K
  of := fun _ _ e => ⟨_, He.frG_in, e⟩
  keeps := fun _ _ _ ⟨K, hK, c⟩ k => ⟨K, PySem.W.Frag.In.keeps hK k, c⟩
theorem obsXG_eq {chk : PySem.W.Frag → Bool} {fn : List He.DefD} {g : Addr → Option Obj} {s : Shared} (h : ∀ a, g a = s.heap.get? a) : obsXG chk fn g = (hookX chk fn).obs s := by
  have e : g = s.heap.get? := funext h
  rw [e] <;> rfl
section
variable {chk : PySem.W.Frag → Bool} {fn : List He.DefD} {K : PySem.W.Frag}
theorem SaysX.look (c : SaysX chk fn K) : chk K = true :=
  (He.ba (show (chk K && fn.all fun d => d.ok K) = true from congrArg (fun z : He.AlD => z.1) c)).1
theorem SaysX.def_ (c : SaysX chk fn K) (i : Nat) {d : He.DefD} (h : fn[i]? = some d := by rfl) : ∃ fd, FunD K d.name d.qual d.params d.body d.scope (d.dvs K) (d.kws K) (He.fAd K d.at_) fd := by
  have c2 := (He.ba (show (chk K && fn.all fun d => d.ok K) = true from congrArg (fun z : He.AlD => z.1) c)).2
  have e : fn.map (fun d => He.fnW K d.at_) = fn.map He.DefD.val := congrArg (fun z : He.AlD => z.2) c
  have e2 : (fn.map fun d => He.fnW K d.at_)[i]? = (fn.map He.DefD.val)[i]? := by rw [e]
  rw [List.getElem?_map, List.getElem?_map, h] at e2
  exact He.DefD.funD (Option.some.inj e2) (List.all_eq_true.mp c2 d (List.mem_of_getElem? h))
end
/-- a def of the module, without defaults -/
def dMod (x : Str) (st : Stmt) : He.DefD := ⟨(x, none), x, x, defArgs st, defBody st, defScope st, [], []⟩
def dMet (c m q : Str) (st : Stmt) : He.DefD := ⟨(c, some m), m, q, defArgs st, defBody st, defScope st, [], []⟩
theorem FunD.toG {K : PySem.W.Frag} {x qual : Str} {st : Stmt} {f : Addr} {fd : FuncData} (F : FunD K x qual (defArgs st) (defBody st) (defScope st) [] [] f fd) : FunG K x qual st f fd := by
  obtain ⟨oc, od, dV, kV, doc, pm, an, cdv, ct, osl, rfl, lk, hcd, hD, hK⟩ := F.ex
  exact ⟨⟨oc, od, dV, kV, doc, pm, an, cdv, ct, osl, rfl, lk, hcd⟩, F.kp⟩
/-! ### own exception classes, by looks -/
open He in
def clsObjB (K : PySem.W.Frag) (C : Addr) : Bool := match K.lookup C with
  | some ⟨.type "type", _, .cls cd, sl⟩ => (match cd.mro, sl.toList with
    | .ref C' :: bm, [_, _, _, _, some (.builtin n), _] => C' == C && (n == "ValueError.__new__" && (!cd.hasDel && (cd.hasDict && PySem.HandSPX.refsVE bm)))
    | _, _ => false)
  | _ => false
theorem clsObjB_ok {K : PySem.W.Frag} {C : Addr} (q : clsObjB K C = true) : ∃ nm q N bs bm sn sub ab col dd k0 k1 k2 k3 k5, K.lookup C = some (excClassObj nm q C N bs bm true sn sub ab col dd k0 k1 k2 k3 k5 "ValueError.__new__") ∧ PySem.HandSPX.refsVE bm = true := by
  unfold clsObjB at q
  split at q
  · rename_i dd cd sl ho
    split at q
    · rename_i C' bm k0 k1 k2 k3 n k5 hm hs
      simp only [Bool.and_eq_true, beq_iff_eq, Bool.not_eq_true'] at q
      obtain ⟨rfl, rfl, hdel, hdct, ht⟩ := q
      obtain ⟨nm, bs, mro, ns, qn, hd, sn, sub, ab, col, del⟩ := cd
      dsimp only at hm hdel hdct
      subst hm hdel hdct
      have hsl : sl = #[k0, k1, k2, k3, some (.builtin "ValueError.__new__"), k5] := by
        obtain ⟨l⟩ := sl
        simp only at hs
        rw [hs]
      subst hsl
      exact ⟨nm, qn, ns, bs, bm, sn, sub, ab, col, dd, k0, k1, k2, k3, k5, ho, ht⟩
    · cases q
  · cases q
def exB (K : PySem.W.Frag) (c : Str) : Bool :=
  He.eqO (PySem.W.nsIn K mainGlobals c) (some (some (.ref (He.ga K c)))) && (clsObjB K (He.ga K c) && (He.eqO (PySem.W.findIn K (.ref (He.ga K c)) "__setattr__") (some (some (.builtin "object.__setattr__"))) &&
  (decide (PySem.W.subIn K (.ref (He.ga K c)) (.type "BaseException") = some true) && (decide (PySem.W.typeIn K (.ref (He.ga K c)) = some (.type "type")) && (PySem.W.keepIn K (.ref (He.ga K c)) &&
  (xfB K (He.ga K c) && (He.eqO (PySem.W.findIn K (.ref (He.ga K c)) "__class__") (some (some (.builtin "object.__class__"))) && decide (PySem.W.mroIn K (He.ga K c) (.type "object") = some true))))))))
def iniB (K : PySem.W.Frag) (c : Str) (fs : List Str) : Bool :=
  He.eqO (PySem.W.findIn K (.ref (He.ga K c)) "__init__") (some (some (.ref (He.ma K (He.ga K c) "__init__")))) && (decide (PySem.W.typeIn K (.ref (He.ma K (He.ga K c) "__init__")) = some (.type "function")) && fs.all fun f => He.eqO (PySem.W.findIn K (.ref (He.ga K c)) f) (some none))
def objB (K : PySem.W.Frag) : Bool := decide (PySem.W.specialIn K (.builtin "object.__class__") "__get__" = some (some (.builtin "getset_descriptor.__get__"))) && decide (PySem.W.takesIn K (.builtin "object.__class__") = some true)
def bareB (K : PySem.W.Frag) (c : Str) : Bool := PySem.W.excIn K (He.ga K c) [.type "ValueError", .type "Exception", .type "BaseException", .type "object"] "ValueError.__new__"
/-- the classes of names stand directly below the one class sup -/
def mroB (K : PySem.W.Frag) (names : List Str) (sup : Str) : Bool :=
  (names.all fun c => match PySem.W.clsIn K (He.ga K c) with | some cd => cd.mro == [.ref (He.ga K c), .ref (He.ga K sup), .type "ValueError", .type "Exception", .type "BaseException", .type "object"] | none => false) &&
  ((PySem.W.clsIn K (He.ga K sup)).isSome && (PySem.W.typeIn K (.ref (He.ga K sup)) == some (.type "type") && decide ((sup :: names).map (He.ga K)).Nodup))
section
variable {P : Program} {w : World} {K : PySem.W.Frag} {mg : Str → Option Value} {base h : Heap} {G : Gx} {c f g qual : Str} {st : Stmt} {fs : List Str}
structure ExF (K : PySem.W.Frag) (c : Str) : Prop where
  glo : PySem.W.nsIn K mainGlobals c = some (some (.ref (He.ga K c)))
  cls : OexC K (He.ga K c)
  xf : XfC K (He.ga K c)
  ha : PySem.W.findIn K (.ref (He.ga K c)) "__class__" = some (some (.builtin "object.__class__"))
  hm : PySem.W.mroIn K (He.ga K c) (.type "object") = some true
theorem exB_ok (b : exB K c = true) : ExF K c := by
  unfold exB at b
  obtain ⟨b1, b⟩ := He.ba b
  obtain ⟨b2, b⟩ := He.ba b
  obtain ⟨b3, b⟩ := He.ba b
  obtain ⟨b4, b⟩ := He.ba b
  obtain ⟨b5, b⟩ := He.ba b
  obtain ⟨b6, b⟩ := He.ba b
  obtain ⟨b7, b⟩ := He.ba b
  obtain ⟨b8, b9⟩ := He.ba b
  exact ⟨He.eqO_ok b1, ⟨clsObjB_ok b2, He.eqO_ok b3, of_decide_eq_true b4, of_decide_eq_true b5, b6⟩, xfB_ok b7, He.eqO_ok b8, of_decide_eq_true b9⟩
theorem ExF.excC (E : ExF K c) (b : objB K = true) : ExcC K (He.ga K c) := by
  obtain ⟨b1, b2⟩ := He.ba b
  exact ⟨E.xf.ga, E.xf.gg, E.xf.exC, E.xf.hdC, E.ha, of_decide_eq_true b1, of_decide_eq_true b2, E.hm⟩
theorem iniB_ok (b : iniB K c fs = true) : PySem.W.findIn K (.ref (He.ga K c)) "__init__" = some (some (.ref (He.ma K (He.ga K c) "__init__"))) ∧ PySem.W.typeIn K (.ref (He.ma K (He.ga K c) "__init__")) = some (.type "function") ∧ ∀ f ∈ fs, PySem.W.findIn K (.ref (He.ga K c)) f = some none := by
  unfold iniB at b
  obtain ⟨b1, b⟩ := He.ba b
  obtain ⟨b2, b3⟩ := He.ba b
  exact ⟨He.eqO_ok b1, of_decide_eq_true b2, fun f hf => He.eqO_ok (List.all_eq_true.mp b3 f hf)⟩
theorem kbn_of {fd : FuncData} {ps : List Str} {n : Nat} {ks : List Str} {g : List Value → List Value → List Value} {gV : List V → List V → List V} (h : ∀ us ws, us.length = n → ws.length = ks.length → bindArgs fd ⟨us, ks.zip ws⟩ = pure (ps.zip (g us ws)))
    (hr : ∀ {vs : List V} {us : List Value} {zs : List V} {ws : List Value}, Vals vs us → Vals zs ws → Vals (gV vs zs) (g us ws)) : KBn K fd ps n ks g gV :=
  ⟨fun s us ws _ h1 h2 => .of_eq (h us ws h1 h2), hr⟩
theorem Vals.rev {vs : List V} {us : List Value} (h : Vals vs us) : Vals vs.reverse us.reverse := by
  induction h with
  | nil => exact .nil
  | cons a b ih => rw [List.reverse_cons, List.reverse_cons]; exact ih.append (.cons a .nil)
theorem exn1_mk (hca : G.ca c = He.ga K c) (hfl : G.fl c = [f]) (b : exB K c = true) (bi : iniB K c [f] = true) (X : K.In h) (Gn : h.Ns mainGlobals mg) (Fn : ∃ fd, FunD K "__init__" qual (defArgs st) (defBody st) (defScope st) [] [] (He.ma K (He.ga K c) "__init__") fd)
    (S : FnScope ["self", f] ["self", f] (defScope st)) (hb : ∃ p1 p2 p3 p4, defBody st = [.Assign [.Attribute (.Name "self" p1) f p2] (.Name f p3) p4])
    (h1 : ∀ kV doc pm an cdv ct u v, bindArgs (PySem.W.fnOf "__init__" qual (defArgs st) (defBody st) (defScope st) .none kV doc pm an cdv ct) ⟨[u, v], []⟩ = pure [(("self" : Str), u), (f, v)])
    (h2 : ∀ kV doc pm an cdv ct u v, bindArgs (PySem.W.fnOf "__init__" qual (defArgs st) (defBody st) (defScope st) .none kV doc pm an cdv ct) ⟨[u], [((f : Str), v)]⟩ = pure [(("self" : Str), u), (f, v)])
    (hd : (f == ("__debug__" : Str)) = false := by decide) (hc : (f == ("__classdict__" : Str)) = false := by decide) : ExnOk P w K mg base G c [f] := by
  have E := exB_ok b
  obtain ⟨i1, i2, i3⟩ := iniB_ok bi
  obtain ⟨fd, F⟩ := Fn
  have Fg := FunD.toG F
  refine ⟨by rw [hca]; exact E.cls, by rw [hca]; exact PySem.W.mg_of X Gn E.glo, hfl, (by show 1 ≤ 1000; decide), _, fd, by rw [hca]; exact i1, i2, by rw [hca]; exact init1_ok E.cls (i3 f (by simp)) Fg S hb hd hc, ?_, ?_⟩
  · obtain ⟨oc, od, dV, kV, doc, pm, an, cdv, ct, osl, rfl, lk, hcd, hD, hK⟩ := F.ex
    rcases hD with ⟨_, rfl⟩ | ⟨e, _⟩
    · exact kbn_of (fun us ws a b => match us, ws, a, b with | [u, v], [], _, _ => h1 _ _ _ _ _ _ u v) fun r _ => r
    · exact absurd rfl e
  · obtain ⟨oc, od, dV, kV, doc, pm, an, cdv, ct, osl, rfl, lk, hcd, hD, hK⟩ := F.ex
    rcases hD with ⟨_, rfl⟩ | ⟨e, _⟩
    · exact kbn_of (fun us ws a b => match us, ws, a, b with | [u], [v], _, _ => h2 _ _ _ _ _ _ u v) fun r s => r.append (Vals.rev s)
    · exact absurd rfl e
theorem exn2_mk (hca : G.ca c = He.ga K c) (hfl : G.fl c = [f, g]) (b : exB K c = true) (bi : iniB K c [f, g] = true) (X : K.In h) (Gn : h.Ns mainGlobals mg) (Fn : ∃ fd, FunD K "__init__" qual (defArgs st) (defBody st) (defScope st) [] [] (He.ma K (He.ga K c) "__init__") fd)
    (S : FnScope ["self", f, g] ["self", f, g] (defScope st)) (hb : ∃ p1 p2 p3 p4 q1 q2 q3 q4, defBody st = [.Assign [.Attribute (.Name "self" p1) f p2] (.Name f p3) p4, .Assign [.Attribute (.Name "self" q1) g q2] (.Name g q3) q4]) (hfg : f ≠ g)
    (h1 : ∀ kV doc pm an cdv ct u v y, bindArgs (PySem.W.fnOf "__init__" qual (defArgs st) (defBody st) (defScope st) .none kV doc pm an cdv ct) ⟨[u, v, y], []⟩ = pure [(("self" : Str), u), (f, v), (g, y)])
    (h2 : ∀ kV doc pm an cdv ct u v y, bindArgs (PySem.W.fnOf "__init__" qual (defArgs st) (defBody st) (defScope st) .none kV doc pm an cdv ct) ⟨[u], [(g, y), (f, v)]⟩ = pure [(("self" : Str), u), (f, v), (g, y)])
    (hd : (f == ("__debug__" : Str)) = false := by decide) (hc : (f == ("__classdict__" : Str)) = false := by decide) (hd2 : (g == ("__debug__" : Str)) = false := by decide) (hc2 : (g == ("__classdict__" : Str)) = false := by decide) : ExnOk P w K mg base G c [f, g] := by
  have E := exB_ok b
  obtain ⟨i1, i2, i3⟩ := iniB_ok bi
  obtain ⟨fd, F⟩ := Fn
  have Fg := FunD.toG F
  refine ⟨by rw [hca]; exact E.cls, by rw [hca]; exact PySem.W.mg_of X Gn E.glo, hfl, (by show 2 ≤ 1000; decide), _, fd, by rw [hca]; exact i1, i2, by rw [hca]; exact init2_ok E.cls (i3 f (by simp)) (i3 g (by simp)) Fg S hb hfg hd hc hd2 hc2, ?_, ?_⟩
  · obtain ⟨oc, od, dV, kV, doc, pm, an, cdv, ct, osl, rfl, lk, hcd, hD, hK⟩ := F.ex
    rcases hD with ⟨_, rfl⟩ | ⟨e, _⟩
    · exact kbn_of (fun us ws a b => match us, ws, a, b with | [u, v, y], [], _, _ => h1 _ _ _ _ _ _ u v y) fun r _ => r
    · exact absurd rfl e
  · obtain ⟨oc, od, dV, kV, doc, pm, an, cdv, ct, osl, rfl, lk, hcd, hD, hK⟩ := F.ex
    rcases hD with ⟨_, rfl⟩ | ⟨e, _⟩
    · exact kbn_of (fun us ws a b => match us, ws, a, b with | [u], [y, v], _, _ => h2 _ _ _ _ _ _ u v y) fun r s => r.append (Vals.rev s)
    · exact absurd rfl e
theorem isT_mk {names : List Str} {sup : Str} (hca : ∀ c, G.ca c = He.ga K c) (ob : objB K = true) (bx : names.all (exB K) = true) (b : mroB K names sup = true) : IsT K G names [sup] ["ValueError"] := by
  unfold mroB at b
  obtain ⟨b1, b⟩ := He.ba b
  obtain ⟨b2, b⟩ := He.ba b
  obtain ⟨b3, b4⟩ := He.ba b
  have nd : ((sup :: names).map (He.ga K)).Nodup := of_decide_eq_true b4
  have inj : ∀ {x y : Str}, x ∈ sup :: names → y ∈ sup :: names → He.ga K x = He.ga K y → x = y := by
    intro x y hx hy e
    obtain ⟨i, hi, rfl⟩ := List.getElem_of_mem hx
    obtain ⟨j, hj, rfl⟩ := List.getElem_of_mem hy
    have hi' : i < ((sup :: names).map (He.ga K)).length := by rw [List.length_map]; exact hi
    have hj' : j < ((sup :: names).map (He.ga K)).length := by rw [List.length_map]; exact hj
    have z : ((sup :: names).map (He.ga K))[i] = ((sup :: names).map (He.ga K))[j] := by rw [List.getElem_map, List.getElem_map]; exact e
    have pw := List.pairwise_iff_getElem.mp nd
    rcases Nat.lt_trichotomy i j with l | l | l
    · exact absurd z (pw i j hi' hj' l)
    · subst l; rfl
    · exact absurd z.symm (pw j i hj' hi' l)
  have mem : ∀ {x : Str}, names.contains x = true → x ∈ names := fun h => List.contains_iff_mem.mp h
  have mro : ∀ c, names.contains c = true → ∃ cd, PySem.W.clsIn K (He.ga K c) = some cd ∧ cd.mro = [.ref (He.ga K c), .ref (He.ga K sup), .type "ValueError", .type "Exception", .type "BaseException", .type "object"] := by
    intro c hc
    have z := List.all_eq_true.mp b1 c (mem hc)
    split at z
    · rename_i cd hcd
      exact ⟨cd, hcd, beq_iff_eq.mp z⟩
    · cases z
  have sub : ∀ c v, names.contains c = true → PySem.W.subIn K (.ref (He.ga K c)) v = some (([.ref (He.ga K c), .ref (He.ga K sup), .type "ValueError", .type "Exception", .type "BaseException", .type "object"] : List Value).contains v) := by
    intro c v hc
    obtain ⟨cd, h1, h2⟩ := mro c hc
    show PySem.W.mroIn K (He.ga K c) v = _
    unfold PySem.W.mroIn
    rw [h1]
    simp [h2]
  refine ⟨fun c hc => by rw [hca]; exact (exB_ok (List.all_eq_true.mp bx c (mem hc))).excC ob, fun c c2 hc h2 => ?_, fun c n hc hn => ?_⟩
  · rw [hca, hca]
    have hs : ([sup] : List Str).contains c2 = decide (c2 = sup) := by simp
    rw [hs] at h2 ⊢
    unfold PySem.W.kitOne
    by_cases e : c = c2
    · subst e
      simp
    · have m1 : c ∈ sup :: names := List.mem_cons_of_mem _ (mem hc)
      have m2 : c2 ∈ sup :: names := by
        rcases Bool.or_eq_true_iff.mp h2 with h | h
        · exact List.mem_cons_of_mem _ (mem h)
        · rw [of_decide_eq_true h]; exact List.mem_cons_self
      have ne : He.ga K c ≠ He.ga K c2 := fun z => e (inj m1 m2 z)
      have e1 : (Value.ref (He.ga K c) == Value.ref (He.ga K c2)) = false := by simpa using ne
      rw [e1, if_neg (by decide)]
      show PySem.W.kitCls K (.ref (He.ga K c)) (.ref (He.ga K c2)) = _
      unfold PySem.W.kitCls
      have ok : ((PySem.W.clsIn K (He.ga K c2)).isSome && PySem.W.typeIn K (.ref (He.ga K c2)) == some (.type "type")) = true := by
        rcases Bool.or_eq_true_iff.mp h2 with h | h
        · obtain ⟨cd, z1, _⟩ := mro c2 h
          rw [z1, (exB_ok (List.all_eq_true.mp bx c2 (mem h))).cls.tyC] <;> rfl
        · rw [of_decide_eq_true h, b2, b3] <;> rfl
      show (if ((PySem.W.clsIn K (He.ga K c2)).isSome && PySem.W.typeIn K (.ref (He.ga K c2)) == some (.type "type")) = true then PySem.W.subIn K (.ref (He.ga K c)) (.ref (He.ga K c2)) else none) = _
      rw [if_pos ok, sub c _ hc]
      by_cases e2 : c2 = sup
      · subst e2
        simp [e]
      · have n2 : He.ga K c2 ≠ He.ga K sup := fun z => e2 (inj m2 List.mem_cons_self z)
        simp [e, e2, n2, Ne.symm ne]
  · have e : n = "ValueError" := by simpa using hn
    subst e
    rw [hca]
    unfold PySem.W.kitOne
    rw [if_neg (by simp)]
    show (if PySem.W.kitMeta "ValueError" = true then PySem.W.subIn K (.ref (He.ga K c)) (.type "ValueError") else none) = some true
    rw [if_pos (by decide +kernel), sub c _ hc]
    simp
end
end Nb
set_option Elab.async false
set_option linter.all false
set_option maxRecDepth 100000
set_option maxHeartbeats 4000000
namespace Nb
open PySem PySem.Spec PyProof.Rows L2 RZ
theorem bind_ok {α β : Type} {m : M α} {f : α → M β} {s s1 : Sr} {a : α} (h : m s = some (a, s1)) : (m >>= f) s = f a s1 := by rw [M.bind_ap, h]
/-! ### match e: case [x, y]: .. case _: .. -/
def tMat2 (K : PySem.W.Frag) (te : TE) (i j : Nat) (ta tb : TS) : TS := fun D σ H => te σ H fun v H1 =>
  (∃ a xs u w, v = .ref a ∧ (SqL K H1 a xs ∨ SqT K H1 a xs) ∧ xs = [u, w] ∧ ta D ((σ.set i (some u)).set j (some w)) H1) ∨
  (∃ a xs, v = .ref a ∧ (SqL K H1 a xs ∨ SqT K H1 a xs) ∧ xs.length ≠ 2 ∧ tb D σ H1)
section
variable {X : Cx} {e : Expr} {te : TE} {i j : Nat} {x y : Str} {ba bb : List Stmt} {ta tb : TS} {p1 p2 p3 p4 pos : Pos}
theorem ps_mat2 (hc : X.calm = true) (he : PE X e te) (hN : X.N.Nodup) (hi : X.N[i]? = some x) (hj : X.N[j]? = some y) (hx : Loc X.env.scope x) (hy : Loc X.env.scope y) (ha : PSs X ba ta) (hb : PSs X bb tb)
    (fx : X.fn x = true ∨ X.env.scope.names.lookup x = some .local := by first | exact .inl rfl | exact .inr rfl | assumption) (fy : X.fn y = true ∨ X.env.scope.names.lookup y = some .local := by first | exact .inl rfl | exact .inr rfl | assumption) :
    PS X (.Match e [⟨.MatchSequence [.MatchAs none (some x) p1, .MatchAs none (some y) p2] p3, none, ba⟩, ⟨.MatchAs none none p4, none, bb⟩] pos) (tMat2 X.K te i j ta tb) := by
  refine ⟨fun pins s σ H D I h => ?_⟩
  refine PySem.wpAny_Match (thn (he.run pins s σ H _ I h) fun v s1 ⟨z, H1, I1, r1, q1⟩ => ?_)
  refine PySem.wpAny_matchCases_cons ?_
  -- behind the pattern
  have hit : ∀ (s2 : Shared) (its : List Value) (u w : V), Inv X pins σ H1 s2 → Vals [u, w] its → ta D ((σ.set i (some u)).set j (some w)) H1 →
      wpAny (model X.prog X.w) X.A (matchEach [.MatchAs none (some x) p1, .MatchAs none (some y) p2] X.env its) (fun r s₁ => match r with
        | none => wpAny (model X.prog X.w) X.A (matchCases [⟨.MatchAs none none p4, none, bb⟩] X.env v false) (SP X pins D) X.xe s₁
        | some bs => wpAny (model X.prog X.w) X.A (assignInOrder (bs.map fun (n, _) => bindName X.env n) (bs.map (·.2))) (fun _ s₂ => wpAny (model X.prog X.w) X.A (execs ba X.env) (SP X pins D) X.xe s₂) X.xe s₁) X.xe s2 := by
    intro s2 its u w I2 r q
    match its, r with
    | [u', w'], .cons ru (.cons rw' .nil) =>
      refine PySem.wpAny_matchEach_cons (PySem.wpAny_matchPattern_Capture ?_) rfl
      refine PySem.wpAny_matchEach_cons (PySem.wpAny_matchPattern_Capture ?_) rfl
      refine PySem.wpAny_matchEach_nil ?_
      refine PySem.wpAny_assignInOrder_more (PySem.wpAny_bindName (store_ok I2 hN hi hx ru (fun s3 I3 => ?_) fx))
      refine PySem.wpAny_assignInOrder_more (PySem.wpAny_bindName (store_ok I3 hN hj hy rw' (fun s4 I4 => ?_) fy))
      refine PySem.wpAny_assignInOrder_none ?_
      exact ha.run pins s4 _ H1 D I4 q
  have miss : ∀ (s2 : Shared), Inv X pins σ H1 s2 → tb D σ H1 → wpAny (model X.prog X.w) X.A (matchCases [⟨.MatchAs none none p4, none, bb⟩] X.env v false) (SP X pins D) X.xe s2 := by
    intro s2 I2 q
    refine PySem.wpAny_matchCases_cons (PySem.wpAny_matchPattern_Capture ?_)
    refine PySem.wpAny_assignInOrder_none ?_
    exact hb.run pins s2 σ H1 D I2 q
  have fit : ∀ {its : List Value}, its.length ≤ sizeLine → ((its.toArray.size : Nat) : Int) < 2 ^ 63 := fun {its} h => by
    rw [sizeLine_eq] at h
    simp only [List.size_toArray]
    omega
  rcases q1 with ⟨a, xs, u, w, rfl, hs, rfl, q⟩ | ⟨a, xs, rfl, hs, hl, q⟩
  · cases r1
    rcases hs with hs | hs
    · obtain ⟨its, rv, pl, hz⟩ := I1.list hs
      have hl' : s1.heap.IsList a its.toArray := by
        obtain ⟨o, m, e, c, d, q⟩ := pl
        exact ⟨o, e, c, m, q⟩
      have hn : its.length = 2 := rv.length.symm
      refine matchSeq_list_hit hl' (fit (by rw [hn, sizeLine_eq]; decide)) (by simp [hn]) ?_ rfl rfl
      have e2 : [Pattern.MatchAs none (some x) p1, .MatchAs none (some y) p2].length = its.toArray.size := by simp [hn]
      rw [e2]
      refine PySem.W.kun_itemsOf (I1.ok.hd hc) hl' fun h' hx' => ?_
      exact hit _ its u w (I1.kept (t' := _) fun b o e => hx' b o (Nat.ne_of_lt (Heap.lt_size e)) e) rv q
    · obtain ⟨its, rv, ht, hz⟩ := I1.tuple hs
      have hn : its.length = 2 := rv.length.symm
      refine matchSeq_tuple_hit ht (fit (by rw [hn, sizeLine_eq]; decide)) (by simp [hn]) ?_ rfl rfl
      have e2 : [Pattern.MatchAs none (some x) p1, .MatchAs none (some y) p2].length = its.toArray.size := by simp [hn]
      rw [e2]
      refine unpackItems_tuple (I1.ok.hd hc) ht fun h' hx' => ?_
      exact hit _ its u w (I1.kept (t' := _) fun b o e => hx' b o (Nat.ne_of_lt (Heap.lt_size e)) e) rv q
  · cases r1
    rcases hs with hs | hs
    · obtain ⟨its, rv, pl, hz⟩ := I1.list hs
      have hl' : s1.heap.IsList a its.toArray := by
        obtain ⟨o, m, e, c, d, q⟩ := pl
        exact ⟨o, e, c, m, q⟩
      have hn : its.length = xs.length := rv.length.symm
      refine matchSeq_list_miss hl' (fit (by rw [hn]; exact hz)) (by simp [hn]; exact hl) (miss _ ?_ q) rfl rfl
      exact I1.kept (t' := _) fun b o e => e
    · obtain ⟨its, rv, ht, hz⟩ := I1.tuple hs
      have hn : its.length = xs.length := rv.length.symm
      refine matchSeq_tuple_miss ht (fit (by rw [hn]; exact hz)) (by simp [hn]; exact hl) (miss _ ?_ q) rfl rfl
      exact I1.kept (t' := _) fun b o e => e
end
end Nb
set_option Elab.async false
set_option linter.all false
set_option maxRecDepth 100000
set_option maxHeartbeats 4000000
namespace Nb
open PySem PySem.Spec PyProof.Rows L2 RZ
/-! ### more of a head's facts -/
theorem FunD.toGd {K : PySem.W.Frag} {x qual : Str} {st : Stmt} {f : Addr} {fd : FuncData} {dvs : List V} {kws : List (Str × V)} (F : FunD K x qual (defArgs st) (defBody st) (defScope st) dvs kws f fd) : FunG K x qual st f fd := by
  obtain ⟨oc, od, dV, kV, doc, pm, an, cdv, ct, osl, rfl, lk, hcd, hD, hK⟩ := F.ex
  exact ⟨⟨oc, od, dV, kV, doc, pm, an, cdv, ct, osl, rfl, lk, hcd⟩, F.kp⟩
/-- a constant of the module: a tuple of texts -/
def tupSB (K : PySem.W.Frag) (x : Str) (ks : List Str) : Bool := He.eqO (PySem.W.nsIn K mainGlobals x) (some (some (.ref (He.ga K x)))) && match K.lookup (He.ga K x) with
  | some ⟨.type c, _, .seq its _, _⟩ => decide (c = "tuple") && (decide (its.size ≤ sizeLine) && He.relAll (ks.map V.str) its.toList)
  | _ => false
theorem tupSB_ok {K : PySem.W.Frag} {h : Heap} {mg : Str → Option Value} {G : Gx} {x : Str} {ks : List Str} (X : K.In h) (G0 : h.Ns mainGlobals mg) (hK : G.K = K) (b : tupSB K x ks = true) : GTup G mg x ks := by
  obtain ⟨b1, b2⟩ := He.ba b
  have m := PySem.W.mg_of X G0 (He.eqO_ok b1)
  split at b2
  · rename_i c od its n sl q
    obtain ⟨h1, h2⟩ := He.ba b2
    obtain ⟨h3, h4⟩ := He.ba h2
    exact ⟨_, _, its, n, m, by rw [hK]; exact q, by rw [of_decide_eq_true h1], rfl, of_decide_eq_true h3, He.relAll_ok h4⟩
  · cases b2
/-- a class of one's own, with its fields -/
def clsB (K : PySem.W.Frag) (c : Str) (fs : List Str) : Bool := (He.Fa.glo c).ok K && ((He.Fa.cls c).ok K && ((He.Fa.mkr c).ok K && fs.all fun f => (He.Fa.noat c f).ok K))
theorem clsB_ok {K : PySem.W.Frag} {G : Gx} {c : Str} {fs : List Str} (hca : G.ca c = He.ga K c) (hfl : G.fl c = fs) (nd : fs.Nodup) (b : clsB K c fs = true) : ClsOk K G c ∧ Mk K (G.ca c) (He.ma K (He.ga K c) "__init__") := by
  obtain ⟨b1, b⟩ := He.ba b
  obtain ⟨b2, b⟩ := He.ba b
  obtain ⟨b3, b4⟩ := He.ba b
  rw [hca]
  exact ⟨⟨by rw [hca]; exact He.cls_ok b2, by rw [hfl]; exact nd, fun f hf => by rw [hca]; exact He.noat_ok (List.all_eq_true.mp b4 f (by rw [hfl] at hf; exact hf))⟩, He.mkr_ok b3⟩
theorem clsB_glo {K : PySem.W.Frag} {h : Heap} {mg : Str → Option Value} {c : Str} {fs : List Str} (X : K.In h) (G0 : h.Ns mainGlobals mg) (b : clsB K c fs = true) : mg c = some (.ref (He.ga K c)) := He.glo_ok X G0 (He.ba b).1
end Nb
set_option Elab.async false
set_option linter.all false
set_option maxRecDepth 100000
set_option maxHeartbeats 1000000
namespace Nb
open PySem PySem.Spec PyProof.Rows L2 RZ
/-! ### mirrors step by step -/
theorem seq_nx {m1 m2 : MS} {τ τ' : TauS} {R R' : Sr} (h : m1 τ R = .nx τ' R') : mSeq m1 m2 τ R = m2 τ' R' := by unfold mSeq; rw [h]
theorem seq_rt {m1 m2 : MS} {τ : TauS} {R R' : Sr} {d : D} (h : m1 τ R = .rt d R') : mSeq m1 m2 τ R = .rt d R' := by unfold mSeq; rw [h]
theorem if_ff {et : TauS → M Bool} {m1 m2 : MS} {τ : TauS} {R R' : Sr} (h : et τ R = some (false, R')) : mIfS et m1 m2 τ R = m2 τ R' := by unfold mIfS; rw [h]
theorem if_tt {et : TauS → M Bool} {m1 m2 : MS} {τ : TauS} {R R' : Sr} (h : et τ R = some (true, R')) : mIfS et m1 m2 τ R = m1 τ R' := by unfold mIfS; rw [h]
theorem for_of {mi : Tau → M (List D)} {g : D → Option (List (Nat × D))} {mb : MS} {τ : TauS} {R R' : Sr} {ds : List D} (h : mi (viewA τ) R = some (ds, R')) : mFor mi g mb τ R = loopS g mb ds τ R' := by unfold mFor; rw [h]
theorem loop_nx {g : D → Option (List (Nat × D))} {mb : MS} {d : D} {ds : List D} {us : List (Nat × D)} {τ τ1 τ' : TauS} {R R' : Sr} (hg : g d = some us) (hs : setAllD τ us = τ1) (h : mb τ1 R = .nx τ' R') : loopS g mb (d :: ds) τ R = loopS g mb ds τ' R' := by
  rw [loopS, hg]
  dsimp only
  rw [hs, h]
theorem set_of {g : D → Option (List (Nat × D))} {ev : TauS → M D} {τ : TauS} {R R' : Sr} {d : D} {us : List (Nat × D)} (h : ev τ R = some (d, R')) (hg : g d = some us) : mSet g ev τ R = .nx (setAllD τ us) R' := by
  unfold mSet
  rw [h]
  dsimp only
  rw [hg]
theorem ret_of {ev : TauS → M D} {τ : TauS} {R R' : Sr} {d : D} (h : ev τ R = some (d, R')) : mRet ev τ R = .rt d R' := by unfold mRet; rw [h]
theorem def_rt {N : Nat} {mb : MS} {ds : List D} {R R' : Sr} {d : D} (h : mb (startD N ds) R = .rt d R') : mDef N mb ds R = some (d, R') := by unfold mDef; rw [h]
theorem new_of {i : Nat} {ev : TauS → M Own} {τ : TauS} {R R' : Sr} {ob : Own} (h : ev τ R = some (ob, R')) : mNew i ev τ R = .nx (τ.set i (some (.own ob))) R' := by unfold mNew; rw [h]
theorem call_ok' {n : Nat} {mf : List D → M D} {ms : Tau → M (List D)} {τ : Tau} {R R1 R' : Sr} {xs : List D} {d : D} (h : ms τ R = some (xs, R1)) (hl : xs.length = n) (k : mf xs R1 = some (d, R')) : mCall n [] mf ms τ R = some (d, R') := by
  refine (bind_ok h).trans ?_
  rw [if_pos (by rw [List.length_nil, Nat.add_zero]; exact hl), List.append_nil]
  exact k
theorem cons_ok {m : ME} {ms : Tau → M (List D)} {τ : Tau} {R R1 R2 : Sr} {x : D} {xs : List D} (h : m τ R = some (x, R1)) (k : ms τ R1 = some (xs, R2)) : mCons m ms τ R = some (x :: xs, R2) := (bind_ok h).trans ((bind_ok k).trans rfl)
theorem op_ok {f : D → D → Option D} {ma mb : ME} {τ : Tau} {R R1 R2 : Sr} {x y d : D} (h : ma τ R = some (x, R1)) (k : mb τ R1 = some (y, R2)) (e : f x y = some d) : mOp f ma mb τ R = some (d, R2) := (bind_ok h).trans ((bind_ok k).trans (by rw [opt_ap, e]; rfl))
theorem fun_okD {f : List D → Option D} {ms : Tau → M (List D)} {τ : Tau} {R R1 : Sr} {xs : List D} {d : D} (h : ms τ R = some (xs, R1)) (e : f xs = some d) : mFun f ms τ R = some (d, R1) := (bind_ok h).trans (by rw [opt_ap, e]; rfl)
theorem funI_ok {f : List D → Option (List D)} {ms : Tau → M (List D)} {τ : Tau} {R R1 : Sr} {xs ds : List D} (h : ms τ R = some (xs, R1)) (e : f xs = some ds) : mFunI f ms τ R = some (ds, R1) := (bind_ok h).trans (by rw [opt_ap, e]; rfl)
theorem fz_ok {m : Tau → M Own} {τ : Tau} {R R1 : Sr} {ob : Own} {d : D} (h : m τ R = some (ob, R1)) (e : ownD ob = some d) : mFz m τ R = some (d, R1) := (bind_ok h).trans (by rw [opt_ap, e]; rfl)
theorem comp_ok {vs : List Nat} {mi : Tau → M (List D)} {g : D → Option (List (Nat × D))} {mt : Tau → M Bool} {me : ME} {τ : Tau} {R R1 R2 : Sr} {ds xs : List D} (h : mi τ R = some (ds, R1)) (k : compS g mt me vs (wipeD τ vs) ds R1 = some (xs, R2)) (hl : xs.length ≤ 16000000) : mComp vs mi g mt me τ R = some (.lst xs, R2) :=
  (bind_ok h).trans ((bind_ok k).trans (by rw [opt_ap, if_pos hl]; rfl))
/-- one name goes through, no test -/
theorem comp_cons {i : Nat} {me : ME} {τ : Tau} {d y : D} {ds ys : List D} {R R1 R2 : Sr} (h : me (τ.set i (some d)) R = some (y, R1)) (k : compS (gN i) tYesM me [i] τ ds R1 = some (ys, R2)) : compS (gN i) tYesM me [i] τ (d :: ds) R = some (y :: ys, R2) := by
  have c1 : (opt (if ([(i, d)] : List (Nat × D)).all (fun p => ([i] : List Nat).contains p.1) then some [(i, d)] else none) : M (List (Nat × D))) R = some ([(i, d)], R) := by
    simp [opt]
  refine (bind_ok (a := [(i, d)]) (s1 := R) rfl).trans ?_
  refine (bind_ok c1).trans ?_
  refine (bind_ok (a := true) (s1 := R) rfl).trans ?_
  refine (bind_ok (a := [y]) (s1 := R1) ((bind_ok h).trans rfl)).trans ?_
  exact (bind_ok k).trans rfl
/-- each element's value told by a function, the draws untouched -/
theorem comp_map {i : Nat} {me : ME} {τ : Tau} {R : Sr} {f : D → D} : ∀ (ds : List D), (∀ d ∈ ds, me (τ.set i (some d)) R = some (f d, R)) → compS (gN i) tYesM me [i] τ ds R = some (ds.map f, R)
  | [], _ => rfl
  | d :: ds, h => comp_cons (h d List.mem_cons_self) (comp_map ds fun e he => h e (List.mem_cons_of_mem _ he))
theorem cmp_ok {f : D → D → Option Bool} {ma mb : ME} {τ : Tau} {R R1 R2 : Sr} {x y : D} {b : Bool} (h : ma τ R = some (x, R1)) (k : mb τ R1 = some (y, R2)) (e : f x y = some b) : mCmp f ma mb τ R = some (b, R2) := (bind_ok h).trans ((bind_ok k).trans (by rw [opt_ap, e]; rfl))
theorem tru_ok' {ma : ME} {τ : Tau} {R R1 : Sr} {x : D} {b : Bool} (h : ma τ R = some (x, R1)) (e : truD x = some b) : mTru ma τ R = some (b, R1) := (bind_ok h).trans (by rw [opt_ap, e]; rfl)
theorem not_ok' {m : Tau → M Bool} {τ : Tau} {R R1 : Sr} {b : Bool} (h : m τ R = some (b, R1)) : mNotT m τ R = some (!b, R1) := (bind_ok h).trans rfl
theorem or_ff {m n : Tau → M Bool} {τ : Tau} {R R1 R2 : Sr} {b : Bool} (h : m τ R = some (false, R1)) (k : n τ R1 = some (b, R2)) : mOrT m n τ R = some (b, R2) := (bind_ok h).trans k
theorem or_tt {m n : Tau → M Bool} {τ : Tau} {R R1 : Sr} (h : m τ R = some (true, R1)) : mOrT m n τ R = some (true, R1) := (bind_ok h).trans rfl
theorem asE_ok {m : Tau → M Bool} {τ : Tau} {R R1 : Sr} {b : Bool} (h : m τ R = some (b, R1)) : asE m τ R = some (.bl b, R1) := (bind_ok h).trans rfl
theorem fun1_ok {f : D → Option D} {ma : ME} {τ : Tau} {R R1 : Sr} {x d : D} (h : ma τ R = some (x, R1)) (e : f x = some d) : mFun1 f ma τ R = some (d, R1) := (bind_ok h).trans (by rw [opt_ap, e]; rfl)
theorem mV_ok {i : Nat} {τ : Tau} {R : Sr} {d : D} (h : τ[i]? = some (some d)) : mV i τ R = some (d, R) := by
  unfold mV
  rw [h]
  rfl
end Nb
set_option Elab.async false
set_option linter.all false
set_option maxRecDepth 100000
set_option maxHeartbeats 1000000
/-! operators of own classes: ==, !=, in, |, len -/
namespace L2
open PySem PySem.Spec PyProof.Rows
theorem looks_type {M : Model} {s : Shared} {u : Value} {T : String} (t : s.TypeIs u T) : PySem.W.Looks M s.heap (typeOf u) (.type T) := by
  intro A Q E s' k q
  cases u with
  | ref a =>
    obtain ⟨o, ho, hc⟩ := t
    exact wpAny_typeOf_ref (k _ _ ho) (by rw [hc]; exact q)
  | _ => exact wpAny_of_eq t q
/-- y's type never comes ahead of the class at C -/
def TyV (X : Cx) (C : Addr) (H : Hp) (y : V) : Prop := ∀ pins σ s u, Inv X pins σ H s → RelV y u → ∃ tb, PySem.W.Looks (model X.prog X.w) s.heap (typeOf u) tb ∧ PySem.W.notFirst X.K C tb = true
theorem TyV.ins {X : Cx} {C b dx : Addr} {H : Hp} {fs : List (Str × V)} (h : H b = some (.ins C dx fs)) : TyV X C H (.ref b) := by
  intro pins σ s u I r
  cases r
  obtain ⟨mA, J, _⟩ := ins_get I.hok h
  obtain ⟨od, J, _⟩ := J.look
  exact ⟨.ref C, J.type, by simp [PySem.W.notFirst]⟩
theorem TyV.of {X : Cx} {C : Addr} {H : Hp} {y : V} {T : String} (h : ∀ pins σ s u, Inv X pins σ H s → RelV y u → s.TypeIs u T) (n : (fastBuiltinMro T).map (·.contains (.ref C)) = some false) : TyV X C H y := by
  intro pins σ s u I r
  refine ⟨.type T, looks_type (h pins σ s u I r), ?_⟩
  show (Value.type T == .ref C || (fastBuiltinMro T).map (·.contains (.ref C)) == some false) = true
  rw [n]
  simp
theorem mro_non (C : Addr) : (fastBuiltinMro "NoneType").map (·.contains (.ref C)) = some false := by rw [show fastBuiltinMro "NoneType" = some [.type "NoneType", .type "object"] from by decide +kernel]; simp
theorem mro_bool (C : Addr) : (fastBuiltinMro "bool").map (·.contains (.ref C)) = some false := by rw [show fastBuiltinMro "bool" = some [.type "bool", .type "int", .type "object"] from by decide +kernel]; simp
theorem mro_int (C : Addr) : (fastBuiltinMro "int").map (·.contains (.ref C)) = some false := by rw [show fastBuiltinMro "int" = some [.type "int", .type "object"] from by decide +kernel]; simp
theorem mro_str (C : Addr) : (fastBuiltinMro "str").map (·.contains (.ref C)) = some false := by rw [show fastBuiltinMro "str" = some [.type "str", .type "object"] from by decide +kernel]; simp
theorem mro_list (C : Addr) : (fastBuiltinMro "list").map (·.contains (.ref C)) = some false := by rw [show fastBuiltinMro "list" = some [.type "list", .type "object"] from by decide +kernel]; simp
theorem mro_tuple (C : Addr) : (fastBuiltinMro "tuple").map (·.contains (.ref C)) = some false := by rw [show fastBuiltinMro "tuple" = some [.type "tuple", .type "object"] from by decide +kernel]; simp
theorem mro_dict (C : Addr) : (fastBuiltinMro "dict").map (·.contains (.ref C)) = some false := by rw [show fastBuiltinMro "dict" = some [.type "dict", .type "object"] from by decide +kernel]; simp
theorem TyV.tyb {X : Cx} {C : Addr} {H : Hp} {y : V} {T : String} (t : TyB X.K H y T) (n : (fastBuiltinMro T).map (·.contains (.ref C)) = some false) : TyV X C H y := .of (fun pins σ s u I r => t.is I r) n
theorem TyV.dct {X : Cx} {C a : Addr} {H : Hp} {kvs : List (Key × V)} (h : Rd H a (.dK kvs)) : TyV X C H (.ref a) := by
  refine .of (T := "dict") (fun pins σ s u I r => ?_) (mro_dict C)
  cases r
  obtain ⟨_, _, vs, _, d⟩ := dk_rd I.hok h
  exact d.typeIs
section
variable {X : Cx} {CX : CXT} {k : Nat} {f C : Addr} {fd : FuncData} {ps : List Str} {sp : Sp} {dvs : List V} {ds : List Value} {E : XK} {m : Str}
def rOwn2 (X : Cx) (C : Addr) (sp : Sp) (dvs : List V) (E : XK) : R2 := fun x y H Q => ∃ a dx fs, x = .ref a ∧ H a = some (.ins C dx fs) ∧ TyV X C H y ∧ sp ([x, y] ++ dvs) H Q E
theorem ep_cmp {pins : List (Addr × Obj)} {σ : St} {Q : VK} {v : Value} {s' : Shared} (h : EP X pins σ Q v s') : PySem.W.CmpBack (EP X pins σ Q) v s' := by
  obtain ⟨y, H', I, r, q⟩ := h
  cases v <;> first | exact ⟨y, H', I, r, q⟩ | (exfalso; cases y <;> simp [RelV] at r)
theorem op_eqI (F : FnOk X.prog X.w X.K X.mg X.base CX k f fd ps sp) (hr : Room k X.A) (hm : Meth X.K C "__eq__" f) (hb : Binds X.K fd ps ds) (hd : Vals dvs ds) (hx : Passes CX X E) : OpR X (compareOp .Eq) (rOwn2 X C sp dvs E) := by
  intro pins s σ H x y v u Q I rx ry h
  obtain ⟨a, dx, fs, rfl, ha, ty, hs⟩ := h
  cases rx
  obtain ⟨mA, J, _⟩ := ins_get I.hok ha
  obtain ⟨od, J, _⟩ := J.look
  obtain ⟨tb, lt, nf⟩ := ty pins σ s u I ry
  obtain ⟨mf, hF⟩ := I.fr
  refine PySem.W.cmp_K (op := .Eq) hr.units0 hF I.ok.mod.kin J lt nf hm.at_ hm.fn ?_
  exact wpAny_mono (run_fn F hr hb hd hx I (show Vals [V.ref a, y] [Value.ref a, u] from .cons rfl (.cons ry .nil)) hs) (fun v s' z => ep_cmp z) fun _ _ z => z
def rOwnOr (X : Cx) (C : Addr) (sp : Sp) (dvs : List V) (E : XK) : R2 := fun x y H Q => ∃ a dx fs b dy gs, x = .ref a ∧ H a = some (.ins C dx fs) ∧ y = .ref b ∧ H b = some (.ins C dy gs) ∧ sp ([x, y] ++ dvs) H Q E
theorem op_orI {op : Operator} (hop : PySem.dunder op.info.2 = m) (F : FnOk X.prog X.w X.K X.mg X.base CX k f fd ps sp) (hr : Room k X.A) (hm : Meth X.K C m f) (hc : PySem.W.selfFirst X.K C = true) (hb : Binds X.K fd ps ds) (hd : Vals dvs ds) (hx : Passes CX X E) : OpR X (binaryOp op) (rOwnOr X C sp dvs E) := by
  intro pins s σ H x y v u Q I rx ry h
  obtain ⟨a, dx, fs, b, dy, gs, rfl, ha, rfl, hb', hs⟩ := h
  cases rx
  cases ry
  obtain ⟨mA, J, _⟩ := ins_get I.hok ha
  obtain ⟨od, J, _⟩ := J.look
  obtain ⟨mB, J', _⟩ := ins_get I.hok hb'
  obtain ⟨od', J', _⟩ := J'.look
  obtain ⟨mf, hF⟩ := I.fr
  refine PySem.W.binop_K hF I.ok.mod.kin J J'.type hc (by rw [hop]; exact hm.at_) hm.fn ?_
  exact wpAny_mono (run_fn F hr hb hd hx I (show Vals [V.ref a, V.ref b] [Value.ref a, Value.ref b] from .cons rfl (.cons rfl .nil)) hs) (fun v s' z => ep_cmp z) fun _ _ z => z
def rOwnIn (C : Addr) (sp : Sp) (dvs : List V) (E : XK) : R2 := fun x y H Q => ∃ a dx fs, y = .ref a ∧ H a = some (.ins C dx fs) ∧ sp ([y, x] ++ dvs) H (fun v H' => ∃ b, v = .bl b ∧ Q (.bl b) H') E
theorem op_inI (F : FnOk X.prog X.w X.K X.mg X.base CX k f fd ps sp) (hr : Room k X.A) (hm : Meth X.K C "__contains__" f) (hb : Binds X.K fd ps ds) (hd : Vals dvs ds) (hx : Passes CX X E) : OpR X (compareOp .In) (rOwnIn C sp dvs E) := by
  intro pins s σ H x y v u Q I rx ry h
  obtain ⟨a, dx, fs, rfl, ha, hs⟩ := h
  cases ry
  obtain ⟨mA, J, _⟩ := ins_get I.hok ha
  obtain ⟨od, J, _⟩ := J.look
  obtain ⟨mf, hF⟩ := I.fr
  refine PySem.W.in_K hF I.ok.mod.kin J hm.at_ hm.fn ?_
  refine wpAny_mono (run_fn F hr hb hd hx I (show Vals [V.ref a, x] [Value.ref a, v] from .cons rfl (.cons rx .nil)) hs) (fun r s' z => ?_) fun _ _ z => z
  obtain ⟨y, H', I', r1, b, rfl, q⟩ := z
  cases (show r = Value.bool b from r1)
  exact wpAny_truthy_bool ⟨.bl b, H', I', rfl, q⟩
theorem run_fn1 {pins : List (Addr × Obj)} {σ : St} {H : Hp} {s : Shared} {Q : VK} {us : List Value} {vs : List V} (F : FnOk X.prog X.w X.K X.mg X.base CX k f fd ps sp) (hr : Room (k + 1) X.A) (hb : Binds X.K fd ps ds) (hd : Vals dvs ds) (hx : Passes CX X E)
    (I : Inv X pins σ H s) (r : Vals vs us) (h : sp (vs ++ dvs) H Q E) : wpAny (model X.prog X.w) X.A.in1 (call (.ref f) us) (EP X pins σ Q) X.xe s := by
  have r2 : Vals (vs ++ dvs) (us ++ ds) := r.append hd
  have hl : (us ++ ds).length = ps.length := by rw [← r2.length]; exact F.len _ _ _ _ h
  refine wpAny_call (codeAny_mono (F.run X.A.in1 X.stack s H ⟨us, []⟩ (us ++ ds) (vs ++ dvs) Q E hr.in1 I.env0.in1 (hb s us I.kIn hl) r2 h) fun r s' hq => ?_)
  cases r with
  | error e => exact hx pins σ H s e s' I hq
  | ok fl =>
    cases fl with
    | ret u => exact I.after hq
    | next => exact False.elim hq
    | brk => exact False.elim hq
    | cont => exact False.elim hq
theorem call_lenI (F : FnOk X.prog X.w X.K X.mg X.base CX k f fd ps sp) (hr : Room (k + 1) X.A) (hm : Meth X.K C "__len__" f) (hb : Binds X.K fd ps ds) (hd : Vals dvs ds) (hx : Passes CX X E) :
    CallR X (.builtin "len") (fun xs H Q => ∃ a dx fs, xs = [.ref a] ∧ H a = some (.ins C dx fs) ∧ sp ([.ref a] ++ dvs) H (fun v H' => ∃ n : Int, v = .int n ∧ 0 ≤ n ∧ n < 2 ^ 63 ∧ Q (.int n) H') E) := by
  intro pins s σ H xs us Q I rx h
  obtain ⟨a, dx, fs, rfl, ha, hs⟩ := h
  obtain ⟨u, rfl, ru⟩ : ∃ u, us = [u] ∧ RelV (.ref a) u := by
    cases rx with
    | cons r t => cases t; exact ⟨_, rfl, r⟩
  cases ru
  obtain ⟨mA, J, _⟩ := ins_get I.hok ha
  obtain ⟨od, J, _⟩ := J.look
  obtain ⟨mf, hF⟩ := I.fr
  refine PySem.W.len_K hF I.ok.mod.kin J hm.at_ hm.fn ?_
  refine wpAny_mono (run_fn1 F hr hb hd hx I (show Vals [V.ref a] [Value.ref a] from .cons rfl .nil) hs) (fun r s' z => ?_) fun _ _ z => z
  obtain ⟨y, H', I', r1, n, rfl, h0, h1, q⟩ := z
  obtain ⟨t, rfl⟩ := (show ∃ t, r = Value.int n t from r1)
  exact ⟨⟨h0, h1⟩, .int n, H', I'.tok _, ⟨_, rfl⟩, q⟩
end
end L2
set_option Elab.async false
set_option linter.all false
set_option maxRecDepth 100000
set_option maxHeartbeats 1000000
namespace L2
open PySem PySem.Spec PyProof.Rows Builtin
section
variable {K : PySem.W.Frag} {M : Model} {A : Around} {E : Value → Shared → Prop} {s : Shared} {x C f : Addr} {ox : Obj} {od : Option Obj} {prog : Program} {w : World}
theorem ifBound_objNe {args : List Value} {Q : Option Value → Shared → Prop} (X : K.In s.heap) (I : PySem.W.InstAt s.heap x ox C od) (hs : PySem.W.findIn K (.ref C) "__ne__" = some (some (.builtin "object.__ne__")))
    (h : wpAny M A (call (.builtin "object.__ne__") (.ref x :: args)) (fun v => Q (some v)) E s) : wpAny M A (callSpecialIfBound? (.ref x) "__ne__" args) Q E s := by
  simp only [callSpecialIfBound?, bindSpecialIfBound?]
  refine wpAny_holding (wpAny_bind (wpAny_bind (wpAny_bind (I.type.here ((PySem.W.looks_findIn X hs).here ?_)))))
  refine wpAny_bind (wpAny_askSetting (wpAny_ite ?_))
  have fin : wpAny M A (call (.builtin "object.__ne__") ([.ref x] ++ args) >>= fun v => pure (some v)) Q E s := wpAny_bind (wpAny_mono h (fun v s' h' => wpAny_pure h') fun _ _ h' => h')
  split
  · exact wpAny_bind (wpAny_of_eq (PySem.F.cmp_object.ne.bind _) (wpAny_pure (by exact fin)))
  · exact wpAny_tryCatch (wpAny_bind (wpAny_of_eq (PySem.F.cmp_object.ne.bind _) (wpAny_pure (by exact fin))))
theorem objNe_entry_K {b : Value} (X : K.In s.heap) (I : PySem.W.InstAt s.heap x ox C od) (hs : PySem.W.findIn K (.ref C) "__eq__" = some (some (.ref f))) (hf : PySem.W.isFn K (.ref f) = true) (hu : A.units < cLine) {Q : Fin → Shared → Prop}
    (hcall : wpAny (model prog w) A (call (.ref f) [.ref x, b]) (fun v s' => ∃ k, v = .bool k ∧ Q (.done (.ret (.bool (!k)))) s') E s) : wpAny (model prog w) A (Builtin.«object.__ne__» ⟨[.ref x, b], []⟩) Q E s := by
  unfold Builtin.«object.__ne__»
  repeat (first
    | with_reducible refine wpAny_cRoomFor hu ?_
    | (refine wpAny_bind (m := callSpecialIfBound? (.ref x) (Str.ofString "__eq__") [b])
        (PySem.W.ifBound_K X I hs hf (wpAny_mono hcall (fun r s' hr => by
          obtain ⟨k, rfl, hq⟩ := hr
          repeat (first | exact hq | exact wpAny_pure hq | exact wpAny_truthy_bool hq | (refine wpAny_bind (m := truthy (.bool _)) (wpAny_truthy_bool ?_)) | wp_step)) fun _ _ e => e)))
    | wp_step)
theorem ne_K {b tb : Value} {Q : Value → Shared → Prop} (hu : A.units + 1 < cLine) (X : K.In s.heap) (I : PySem.W.InstAt s.heap x ox C od) (hb : PySem.W.Looks (model prog w) s.heap (typeOf b) tb) (hn : PySem.W.notFirst K C tb = true)
    (hm : PySem.W.mroIn K C (.type "object") = some true) (hs : PySem.W.findIn K (.ref C) "__ne__" = some (some (.builtin "object.__ne__"))) (he : PySem.W.findIn K (.ref C) "__eq__" = some (some (.ref f))) (hf : PySem.W.isFn K (.ref f) = true)
    (h : wpAny (model prog w) A.in1 (call (.ref f) [.ref x, b]) (fun v s' => ∃ k, v = .bool k ∧ Q (.bool (!k)) s') E s) : wpAny (model prog w) A (richCompare .NotEq (.ref x) b) Q E s := by
  have one : wpAny (model prog w) A (tryCompare (.ref x) "__ne__" b) (fun r s' => ∃ v, r = some v ∧ Q v s') E s := by
    unfold tryCompare
    refine wpAny_bind (ifBound_objNe X I hs (wpAny_call (codeAny_call_builtin PySem.F.cmp_object.ne.plain PySem.F.cmpEntry_ne (PySem.W.check_slot PySem.F.cmpKind_ne PySem.F.cmpSplit_ne (I.type.andThen (PySem.W.looks_mroIn X hm)) (PySem.F.cmpArgs_ne _ _)
      (objNe_entry_K (A := A.in1) X I he hf hu (wpAny_mono h (fun v s' hv => ?_) fun _ _ e => e))))))
    obtain ⟨k, rfl, hq⟩ := hv
    first | exact ⟨k, rfl, wpAny_pure ⟨_, rfl, hq⟩⟩ | exact ⟨k, rfl, wpAny_pure (wpAny_pure ⟨_, rfl, hq⟩)⟩
  unfold richCompare
  simp only [oneThing_ref]
  refine wpAny_holding (wpAny_bind (wpAny_cRoomFor (Nat.lt_of_succ_lt hu) ?_))
  rw [cmpInfo_NotEq]
  dsimp only
  refine wpAny_bind (I.type.here (wpAny_bind (hb.here ?_)))
  split
  · rename_i q
    have e : PySem.W.subIn K tb (.ref C) = some false := by
      rcases Bool.or_eq_true_iff.mp hn with e | e
      · rw [beq_iff_eq.mp e] at q; simp at q
      · exact beq_iff_eq.mp e
    refine wpAny_bind ((PySem.W.looks_subIn X e).here ?_)
    simp only [Bool.false_eq_true, if_false]
    refine wpAny_bind (wpAny_mono one (fun r s' z => ?_) fun _ _ e => e)
    obtain ⟨v, rfl, hq⟩ := z
    exact wpAny_pure hq
  · refine wpAny_bind (wpAny_pure ?_)
    simp only [Bool.false_eq_true, if_false]
    refine wpAny_bind (wpAny_mono one (fun r s' z => ?_) fun _ _ e => e)
    obtain ⟨v, rfl, hq⟩ := z
    exact wpAny_pure hq
end
section
variable {X : Cx} {CX : CXT} {k : Nat} {f C : Addr} {fd : FuncData} {ps : List Str} {sp : Sp} {dvs : List V} {ds : List Value} {E : XK} {m : Str}
def rOwnNe (X : Cx) (C : Addr) (sp : Sp) (dvs : List V) (E : XK) : R2 := fun x y H Q => ∃ a dx fs, x = .ref a ∧ H a = some (.ins C dx fs) ∧ TyV X C H y ∧ sp ([x, y] ++ dvs) H (fun v H' => ∃ b, v = .bl b ∧ Q (.bl (!b)) H') E
structure NeOk (K : PySem.W.Frag) (C : Addr) : Prop where
  obj : PySem.W.mroIn K C (.type "object") = some true
  ne : PySem.W.findIn K (.ref C) "__ne__" = some (some (.builtin "object.__ne__"))
theorem op_neI (F : FnOk X.prog X.w X.K X.mg X.base CX k f fd ps sp) (hr : Room (k + 1) X.A) (hn : NeOk X.K C) (hm : Meth X.K C "__eq__" f) (hb : Binds X.K fd ps ds) (hd : Vals dvs ds) (hx : Passes CX X E) : OpR X (compareOp .NotEq) (rOwnNe X C sp dvs E) := by
  intro pins s σ H x y v u Q I rx ry h
  obtain ⟨a, dx, fs, rfl, ha, ty, hs⟩ := h
  cases rx
  obtain ⟨mA, J, _⟩ := ins_get I.hok ha
  obtain ⟨od, J, _⟩ := J.look
  obtain ⟨tb, lt, nf⟩ := ty pins σ s u I ry
  show wpAny (model X.prog X.w) X.A (richCompare .NotEq (.ref a) u) (EP X pins σ Q) X.xe s
  refine ne_K (by have := hr.un; omega) I.kIn J lt nf hn.obj hn.ne hm.at_ hm.fn ?_
  refine wpAny_mono (run_fn1 F hr hb hd hx I (show Vals [V.ref a, y] [Value.ref a, u] from .cons rfl (.cons ry .nil)) hs) (fun r s' z => ?_) fun _ _ z => z
  obtain ⟨w, H', I', r1, b, rfl, q⟩ := z
  cases (show r = Value.bool b from r1)
  exact ⟨b, rfl, .bl (!b), H', I', rfl, q⟩
end
end L2
set_option Elab.async false
set_option linter.all false
set_option maxRecDepth 100000
set_option maxHeartbeats 1000000
namespace Nb
open PySem PySem.Spec PyProof.Rows L2 RZ
/-! ### operators of own classes -/
def tyD (c : Str) : D → Bool
  | .non => true | .bl _ => true | .int _ => true | .str _ => true | .lst _ => true | .tup _ => true | .dct _ => true
  | .ins c' _ => decide (c' = c)
  | _ => false
theorem tyD_rep {X : Cx} {G : Gx} {r F H} {c : Str} {y : D} {v : V} (hK : X.K = G.K) (ry : Rep G r F H y v) (t : tyD c y = true) : TyV X (G.ca c) H v := by
  unfold tyD at t
  split at t
  · simp only [Rep] at ry; subst ry; exact .tyb .non (mro_non _)
  · simp only [Rep] at ry; subst ry; exact .tyb (.bl _) (mro_bool _)
  · simp only [Rep] at ry; subst ry; exact .tyb (.int _) (mro_int _)
  · simp only [Rep] at ry; subst ry; exact .tyb (.str _) (mro_str _)
  · simp only [Rep] at ry
    obtain ⟨a, vs, rfl, l, q⟩ := ry
    exact .tyb (.lst l.sq) (mro_list _)
  · simp only [Rep] at ry
    obtain ⟨a, vs, rfl, l, q⟩ := ry
    exact .tyb (.tup (by rw [hK]; exact l.sq)) (mro_tuple _)
  · simp only [Rep] at ry
    obtain ⟨a, vs, rfl, f, l, q⟩ := ry
    exact .dct l
  · have t := of_decide_eq_true t
    subst t
    simp only [Rep] at ry
    obtain ⟨n, dx, vs, rfl, f1, f2, l, z, q1⟩ := ry
    exact .ins l
  · cases t
def mOwnEq (c : Str) (mf : List D → M D) (ma mb : ME) : ME := fun τ => do let x ← ma τ; let y ← mb τ; if insOf c x = true ∧ tyD c y = true then mf [x, y] else opt none
def notB : D → Option D | .bl b => some (.bl (!b)) | _ => none
def isB : D → Option D | .bl b => some (.bl b) | _ => none
def isN63 : D → Option D | .int n => if 0 ≤ n ∧ n < 2 ^ 63 then some (.int n) else none | _ => none
def mOwnNe (c : Str) (mf : List D → M D) (ma mb : ME) : ME := fun τ => do let x ← ma τ; let y ← mb τ; if insOf c x = true ∧ tyD c y = true then (do let d ← mf [x, y]; opt (notB d)) else opt none
def mOwnIn (c : Str) (mf : List D → M D) (ma mb : ME) : ME := fun τ => do let x ← ma τ; let y ← mb τ; if insOf c y = true then (do let d ← mf [y, x]; opt (isB d)) else opt none
def mOwnOp (c : Str) (mf : List D → M D) (ma mb : ME) : ME := fun τ => do let x ← ma τ; let y ← mb τ; if insOf c x = true ∧ insOf c y = true then mf [x, y] else opt none
def mOwnLen (c : Str) (mf : List D → M D) (ma : ME) : ME := fun τ => do let x ← ma τ; if insOf c x = true then (do let d ← mf [x]; opt (isN63 d)) else opt none
section
variable {X : Cx} {G : Gx} {k : Nat} {c m : Str} {mf : List D → M D} {a b e : Expr} {ma mb : ME} {p pos : Pos}
theorem met_dvs {P w K mg base} (U : MetOk P w K mg base G k c m n [] mf) : ∃ f fd ps, FnOk P w K mg base CX0 k f fd ps (spM G n mf) ∧ Meth K (G.ca c) m f ∧ Binds K fd ps [] := by
  obtain ⟨f, fd, ps, ds, dvs, h1, h2, h3, h4, h5, h6⟩ := U.ex
  have e : dvs = [] := by have := h5 none (fun _ => False) (fun _ => none); simpa only [RepL] using this
  subst e
  cases h4
  exact ⟨f, fd, ps, h1, h2, h3⟩
theorem se_eqI (U : MetOk X.prog X.w X.K X.mg X.base G k c "__eq__" 2 [] mf) (hr : Room k X.A) (hK : X.K = G.K) (ha : PE X a (tE G ma)) (hb : PE X b (tE G mb)) (hx : Passes CX0 X E0) (hm : behindInMarks .Eq b = false := by rfl) :
    PE X (.Compare a [.Eq] [b] pos) (tE G (mOwnEq c mf ma mb)) := by
  obtain ⟨f, fd, ps, h1, h2, h3⟩ := met_dvs U
  refine PE.mono (pe_cmpR (op_eqI h1 hr h2 h3 .nil hx) ha hb hm) fun σ H Q h => tE.two (k := fun x y => if insOf c x = true ∧ tyD c y = true then mf [x, y] else opt none) h fun r F R x y u v H1 d R' o ru rv e q => ?_
  split at e
  · rename_i hc
    obtain ⟨n, dx, vs, rfl, l⟩ := insOf_rep hc.1 ru
    refine ⟨n, dx, _, rfl, l, tyD_rep hK rv hc.2, r, F, [x, y], R, d, R', ?_, o, rfl, e, q⟩
    simp only [List.append_nil, RepL]
    exact ⟨_, _, rfl, ru, v, [], rfl, rv, rfl⟩
  · cases (opt_some e).1
theorem se_neI (U : MetOk X.prog X.w X.K X.mg X.base G k c "__eq__" 2 [] mf) (hn : NeOk X.K (G.ca c)) (hr : Room (k + 1) X.A) (hK : X.K = G.K) (ha : PE X a (tE G ma)) (hb : PE X b (tE G mb)) (hx : Passes CX0 X E0) (hm : behindInMarks .NotEq b = false := by rfl) :
    PE X (.Compare a [.NotEq] [b] pos) (tE G (mOwnNe c mf ma mb)) := by
  obtain ⟨f, fd, ps, h1, h2, h3⟩ := met_dvs U
  refine PE.mono (pe_cmpR (op_neI h1 hr hn h2 h3 .nil hx) ha hb hm) fun σ H Q h => tE.two (k := fun x y => if insOf c x = true ∧ tyD c y = true then (do let d ← mf [x, y]; opt (notB d)) else opt none) h fun r F R x y u v H1 d R' o ru rv e q => ?_
  split at e
  · rename_i hc
    obtain ⟨d0, R0, e0, e1⟩ := M.bind_some e
    obtain ⟨e2, rfl⟩ := opt_some e1
    obtain ⟨n, dx, vs, rfl, l⟩ := insOf_rep hc.1 ru
    refine ⟨n, dx, _, rfl, l, tyD_rep hK rv hc.2, r, F, [x, y], R, d0, _, ?_, o, rfl, e0, fun w H' F' rw o' x' => ?_⟩
    · simp only [List.append_nil, RepL]
      exact ⟨_, _, rfl, ru, v, [], rfl, rv, rfl⟩
    · unfold notB at e2
      split at e2
      · cases e2
        simp only [Rep] at rw
        exact ⟨_, rw, q _ H' F' (by simp only [Rep]) o' x'⟩
      · cases e2
  · cases (opt_some e).1
theorem se_inI (U : MetOk X.prog X.w X.K X.mg X.base G k c "__contains__" 2 [] mf) (hr : Room k X.A) (ha : PE X a (tE G ma)) (hb : PE X b (tE G mb)) (hx : Passes CX0 X E0) (hm : behindInMarks .In b = false := by rfl) :
    PE X (.Compare a [.In] [b] pos) (tE G (mOwnIn c mf ma mb)) := by
  obtain ⟨f, fd, ps, h1, h2, h3⟩ := met_dvs U
  refine PE.mono (pe_cmpR (op_inI h1 hr h2 h3 .nil hx) ha hb hm) fun σ H Q h => tE.two (k := fun x y => if insOf c y = true then (do let d ← mf [y, x]; opt (isB d)) else opt none) h fun r F R x y u v H1 d R' o ru rv e q => ?_
  split at e
  · rename_i hc
    obtain ⟨d0, R0, e0, e1⟩ := M.bind_some e
    obtain ⟨e2, rfl⟩ := opt_some e1
    obtain ⟨n, dx, vs, rfl, l⟩ := insOf_rep hc rv
    refine ⟨n, dx, _, rfl, l, r, F, [y, x], R, d0, _, ?_, o, rfl, e0, fun w H' F' rw o' x' => ?_⟩
    · simp only [List.append_nil, RepL]
      exact ⟨_, _, rfl, rv, u, [], rfl, ru, rfl⟩
    · unfold isB at e2
      split at e2
      · cases e2
        simp only [Rep] at rw
        exact ⟨_, rw, q _ H' F' (by simp only [Rep]) o' x'⟩
      · cases e2
  · cases (opt_some e).1
theorem se_opI {op : Operator} (hop : PySem.dunder op.info.2 = m) (U : MetOk X.prog X.w X.K X.mg X.base G k c m 2 [] mf) (hc : PySem.W.selfFirst X.K (G.ca c) = true) (hr : Room k X.A) (ha : PE X a (tE G ma)) (hb : PE X b (tE G mb)) (hx : Passes CX0 X E0) :
    PE X (.BinOp a op b pos) (tE G (mOwnOp c mf ma mb)) := by
  obtain ⟨f, fd, ps, h1, h2, h3⟩ := met_dvs U
  refine PE.mono (pe_op (op_orI hop h1 hr h2 hc h3 .nil hx) ha hb) fun σ H Q h => tE.two (k := fun x y => if insOf c x = true ∧ insOf c y = true then mf [x, y] else opt none) h fun r F R x y u v H1 d R' o ru rv e q => ?_
  split at e
  · rename_i hc
    obtain ⟨n, dx, vs, rfl, l⟩ := insOf_rep hc.1 ru
    obtain ⟨n2, dx2, vs2, rfl, l2⟩ := insOf_rep hc.2 rv
    refine ⟨n, dx, _, n2, dx2, _, rfl, l, rfl, l2, r, F, [x, y], R, d, R', ?_, o, rfl, e, q⟩
    simp only [List.append_nil, RepL]
    exact ⟨_, _, rfl, ru, _, [], rfl, rv, rfl⟩
  · cases (opt_some e).1
theorem se_lenI (U : MetOk X.prog X.w X.K X.mg X.base G k c "__len__" 1 [] mf) (hr : Room (k + 1) X.A) (hm : X.mg "len" = none) (ha : PE X e (tE G ma)) (hx : Passes CX0 X E0) (hg : Gl X "len" := by rfl) (hs : starEach [e] X.env = (false, eval e X.env) :: starEach [] X.env := by rfl) (hpl : (backTo pos (starEach [] X.env)).any (·.1) = false := by rfl) :
    PE X (.Call (.Name "len" p) [e] [] pos) (tE G (mOwnLen c mf ma)) := by
  obtain ⟨f, fd, ps, h1, h2, h3⟩ := met_dvs U
  refine PE.mono (pe_callB (call_lenI h1 hr h2 h3 .nil hx) hg hm PySem.boot_len (pa_cons ha pa_nil hs) (by decide) (by decide) hs hpl) fun σ H Q h => tE.one (k := fun x => if insOf c x = true then (do let d ← mf [x]; opt (isN63 d)) else opt none) h fun r F R x u H1 d R' o ru e q => ?_
  split at e
  · rename_i hc
    obtain ⟨d0, R0, e0, e1⟩ := M.bind_some e
    obtain ⟨e2, rfl⟩ := opt_some e1
    obtain ⟨n, dx, vs, rfl, l⟩ := insOf_rep hc ru
    refine ⟨n, dx, _, rfl, l, r, F, [x], R, d0, _, ?_, o, rfl, e0, fun w H' F' rw o' x' => ?_⟩
    · simp only [List.append_nil, RepL]
      exact ⟨_, [], rfl, ru, rfl⟩
    · unfold isN63 at e2
      split at e2
      · split at e2
        · rename_i hb
          cases e2
          simp only [Rep] at rw
          exact ⟨_, rw, hb.1, hb.2, q _ H' F' (by simp only [Rep]) o' x'⟩
        · cases e2
      · cases e2
  · cases (opt_some e).1
end
end Nb
set_option Elab.async false
set_option linter.all false
set_option maxRecDepth 100000
set_option maxHeartbeats 1000000
/-! stars of dicts; del and pop; values made while own dicts are seen -/
namespace L2
open PySem PySem.Spec PyProof.Rows
section
variable {X : Cx} {pins : List (Addr × Obj)} {σ : L2.St} {H : Hp} {s : Shared}
theorem star_dct {a : Addr} {kvs : List (Key × V)} {E : Value → Shared → Prop} {Q : List Value → Shared → Prop} (hcalm : X.calm = true) (I : Inv X pins σ H s) (h : Rd H a (.dK kvs)) (hQ : ∀ us s', Inv X pins σ H s' → Vals (kvs.map fun kv => kV kv.1) us → Q us s') :
    PySem.W.StarOf (model X.prog X.w) X.A E (.ref a) Q s := by
  obtain ⟨z, lo, vs, rel, dd⟩ := dk_rd I.hok h
  obtain ⟨ep, hat⟩ := dd.dictAt
  have ek : (kvs.map fun kv => kV kv.1) = vs.map fun p => kV p.1 := by simpa [List.map_map, Function.comp_def] using congrArg (List.map kV) rel.keys
  have hT : s.TypeIs (.ref a) "dict" := dd.typeIs
  have c : wpAny (model X.prog X.w) X.A (collect (.ref a)) Q E s := by
    refine PySem.W.kdu_collect (PySem.W.kdl_dict (knd := mixKind X.prog X.w) (kvs := vs) (ep := ep) lo) (I.ok.hd hcalm) hat (by rw [← rel.length]; exact z) fun h' tk acc hk hacc => hQ acc.toList _ (I.kept (t' := tk) hk) ?_
    rw [ek]
    exact keys_at (by rw [Array.length_toList]; exact hacc.1) fun j v e => hacc.2 j v (by rw [← Array.getElem?_toList]; exact e)
  unfold PySem.W.StarOf notIterableAtAll
  exact wpAny_bind (wpAny_specialOf hT PySem.F.slot_dict_iter.lookup (wpAny_pure ⟨rfl, c⟩))
/-- *e of a list, a tuple or a dict -/
def tStar3 (K : PySem.W.Frag) (te : TE) (t : TA) : TA := fun σ H Q => te σ H fun x H1 => ∃ p xs, x = V.ref p ∧ ((SqT K H1 p xs ∨ SqL K H1 p xs) ∨ ∃ kvs : List (Key × V), Rd H1 p (.dK kvs) ∧ xs = kvs.map fun kv => kV kv.1) ∧ t σ H1 fun ys H2 => Q (xs ++ ys) H2
theorem pa_star3 {e : Expr} {es : List Expr} {te : TE} {t : TA} {p : Pos} (hcalm : X.calm = true) (he : PE X e te) (hr : PA X es t) (hs : starEach (.Starred e p :: es) X.env = (true, eval e X.env) :: starEach es X.env := by rfl) : PA X (.Starred e p :: es) (tStar3 X.K te t) := by
  refine ⟨fun pos pins s σ H Q I h => ?_⟩
  refine PySem.W.items_star (thn (he.run pins s σ H _ I h) fun v s1 ⟨y, H1, I1, ry, a, xs, ey, hx, q⟩ => ?_) hs
  subst ey
  obtain rfl : v = Value.ref a := ry
  have go : ∀ us s', Inv X pins σ H1 s' → Vals xs us → wpAny (model X.prog X.w) X.A (spliced (backTo pos (starEach es X.env))) (fun ws s₃ => AP X pins σ Q (us ++ ws) s₃) X.xe s' := fun us s2 I2 rv =>
    thn (hr.run pos pins s2 σ H1 _ I2 q) fun ws s3 ⟨vs, H3, I3, r3, q3⟩ => ⟨xs ++ vs, H3, I3, rv.append r3, q3⟩
  rcases hx with hx | ⟨kvs, hx, rfl⟩
  · exact StX.star_any I1 hx go
  · exact star_dct hcalm I1 hx go
end
end L2
namespace Nb
open PySem PySem.Spec PyProof.Rows L2 RZ
/-! stars -/
def seqK : D → Option (List D) | .lst ds => some ds | .tup ds => some ds | .dct kvs => some (keysD kvs) | _ => none
def mStar (ma : ME) (ms : Tau → M (List D)) : Tau → M (List D) := fun τ => do let x ← ma τ; let xs ← opt (seqK x); let ys ← ms τ; pure (xs ++ ys)
/-! del and pop of own dicts -/
def dropD (kvs : List (Key × D)) (k : Key) : List (Key × D) := kvs.filter fun kv => decide (kv.1 ≠ k)
theorem RepK.drop {G : Gx} {r F H} : ∀ {kvs : List (Key × D)} {ws : List (Key × V)}, RepK G r F H kvs ws → ∀ k, RepK G r F H (dropD kvs k) (dropK ws k)
  | [], ws, h, k => by simp only [RepK] at h; subst h; simp [dropD, dropK, RepK]
  | (j, d) :: ds, ws, h, k => by
    simp only [RepK] at h
    obtain ⟨w, ws, rfl, a, b⟩ := h
    have ih := RepK.drop b k
    unfold dropD dropK at ih ⊢
    by_cases e : j = k
    · subst e; simpa using ih
    · simp only [List.filter_cons, ne_eq, e, not_false_eq_true, decide_true, if_true, RepK]
      exact ⟨w, _, rfl, a, ih⟩
def mDel (i : Nat) (ek : TauS → M D) : MS := fun τ R => match ek τ R with
  | some (kd, R') => match keyD kd, τ[i]? with
    | some k, some (some (.own (.dct kvs))) => if (valD kvs k).isSome then .nx (τ.set i (some (.own (.dct (dropD kvs k))))) R' else .stuck
    | _, _ => .stuck
  | none => .stuck
section
variable {X : Cx} {G : Gx} {o kx e : Expr} {es : List Expr} {tk : TE} {ek : TauS → M D} {i : Nat} {ma : ME} {ms : Tau → M (List D)} {p pos tpos apos cpos : Pos}
theorem sa_star (hK : X.K = G.K) (hc : X.calm = true) (he : PE X e (tE G ma)) (hr : PA X es (tA G ms)) (hs : starEach (.Starred e p :: es) X.env = (true, eval e X.env) :: starEach es X.env := by rfl) : PA X (.Starred e p :: es) (tA G (mStar ma ms)) :=
  PA.mono (pa_star3 hc he hr hs) fun σ H Q h => by
    obtain ⟨r, F, τ, R, d, R', ht, o, e, q⟩ := h
    obtain ⟨x, R1, e1, e2⟩ := M.bind_some e
    obtain ⟨xs, R2, e3, e4⟩ := M.bind_some e2
    obtain ⟨e5, rfl⟩ := opt_some e3
    obtain ⟨ys, R3, e6, e7⟩ := M.bind_some e4
    cases e7
    refine ⟨r, F, τ, R, x, _, ht, o, e1, fun u H1 F1 ru o1 x1 => ?_⟩
    have fin : ∀ (pa : Addr) (vs : List V), u = .ref pa → ((SqT X.K H1 pa vs ∨ SqL X.K H1 pa vs) ∨ ∃ kvs : List (Key × V), Rd H1 pa (.dK kvs) ∧ vs = kvs.map fun kv => kV kv.1) → RepL G r F1 H1 xs vs →
        ∃ p xs, u = V.ref p ∧ ((SqT X.K H1 p xs ∨ SqL X.K H1 p xs) ∨ ∃ kvs : List (Key × V), Rd H1 p (.dK kvs) ∧ xs = kvs.map fun kv => kV kv.1) ∧ tA G ms σ H1 fun ys H2 => Q (xs ++ ys) H2 := fun pa vs eu hs rl =>
      ⟨pa, vs, eu, hs, r, F1, τ, R2, ys, R', ht.ext o x1, o1, e6, fun us H2 F2 rv o2 x2 => q _ H2 F2 ((x2.repL o1 rl).append rv) o2 (x1.trans o1 x2)⟩
    unfold seqK at e5
    split at e5
    · cases e5
      simp only [Rep] at ru
      obtain ⟨a, vs, rfl, l, q1⟩ := ru
      exact fin a vs rfl (.inl (.inr l.sq)) q1
    · cases e5
      simp only [Rep] at ru
      obtain ⟨a, vs, rfl, l, q1⟩ := ru
      exact fin a vs rfl (.inl (.inl (by rw [hK]; exact l.sq))) q1
    · cases e5
      simp only [Rep] at ru
      obtain ⟨a, ws, rfl, f, l, q1⟩ := ru
      exact fin a _ rfl (.inr ⟨ws, l, rfl⟩) (repL_keys q1)
    · cases e5
theorem sp_ddel (ho : PE X o (tVar i)) (hk : PE X kx tk) (hkv : EvS G tk ek) : PS X (.Delete [.Subscript o kx tpos] pos) (tSS G (mDel i ek)) :=
  PS.mono (ps_ddel ho hk) fun D σ H h => by
    obtain ⟨r, H0, F0, F, W, τ, R, x, o, k, q⟩ := h
    unfold mDel at q
    cases e2 : ek τ R with
    | none => rw [e2] at q; exact q.elim
    | some z =>
      rw [e2] at q
      dsimp only at q
      split at q
      · rename_i key kvs hkey hi
        split at q
        · rename_i hl
          obtain ⟨_, hs, p, rfl, hp, ws, h1, h2⟩ := k.at_ i _ hi
          refine ⟨.ref p, hs, ?_⟩
          refine hkv r H0 F0 F W τ R z.1 z.2 σ H _ x o k e2 fun v2 H2 F2 rv2 o2 x2 xx2 k2 => ?_
          obtain ⟨_, hs', p', e', hp', ws', h1', h2'⟩ := k2.at_ i _ hi
          rw [hs] at hs'
          cases hs'
          cases e'
          refine ⟨p, ws', key, rfl, h1', rv2.key hkey, ?_, ?_⟩
          · rcases RepK.val h2' key with ⟨a, b⟩ | ⟨d, v, a, b, c⟩
            · rw [a] at hl; cases hl
            · rw [b]; rfl
          · obtain ⟨o3, x3, k3, z3⟩ := own_write (ho := .dK (dropK ws' key)) (ob := .dct (dropD kvs key)) k2 o2 x2 hs (fun _ _ z => nomatch z) hp' ⟨_, upd_same, repK_write k2 hp' (h2'.drop key)⟩
            exact q σ _ F2 _ ((xx2.st o).trans z3) x3 o3 k3
        · exact q.elim
      · exact q.elim
theorem sp_dpop (ho : PE X o (tVar i)) (hk : PE X kx tk) (hkv : EvS G tk ek) (m : M1 X o "pop" apos kx cpos) (hs : swapsWith (.Call (.Attribute o "pop" apos) [kx] [] cpos) none pos.line X.env = pure false := by rfl) : PS X (.Expr (.Call (.Attribute o "pop" apos) [kx] [] cpos) pos) (tSS G (mDel i ek)) :=
  PS.mono (ps_expr (pe_dpop1 ho hk m) hs) fun D σ H h => by
    obtain ⟨r, H0, F0, F, W, τ, R, x, o, k, q⟩ := h
    unfold mDel at q
    cases e2 : ek τ R with
    | none => rw [e2] at q; exact q.elim
    | some z =>
      rw [e2] at q
      dsimp only at q
      split at q
      · rename_i key kvs hkey hi
        split at q
        · rename_i hl
          obtain ⟨_, hs, p, rfl, hp, ws, h1, h2⟩ := k.at_ i _ hi
          refine ⟨.ref p, hs, p, rfl, .inl ⟨ws, .of h1⟩, ?_⟩
          refine hkv r H0 F0 F W τ R z.1 z.2 σ H _ x o k e2 fun v2 H2 F2 rv2 o2 x2 xx2 k2 => ?_
          obtain ⟨_, hs', p', e', hp', ws', h1', h2'⟩ := k2.at_ i _ hi
          rw [hs] at hs'
          cases hs'
          cases e'
          rcases RepK.val h2' key with ⟨a, b⟩ | ⟨d, v, a, b, c⟩
          · rw [a] at hl; cases hl
          · refine ⟨ws', key, v, h1', rv2.key hkey, b, ?_⟩
            obtain ⟨o3, x3, k3, z3⟩ := own_write (ho := .dK (dropK ws' key)) (ob := .dct (dropD kvs key)) k2 o2 x2 hs (fun _ _ z => nomatch z) hp' ⟨_, upd_same, repK_write k2 hp' (h2'.drop key)⟩
            exact q σ _ F2 _ ((xx2.st o).trans z3) x3 o3 k3
        · exact q.elim
      · exact q.elim
end
end Nb
set_option Elab.async false
set_option linter.all false
set_option maxRecDepth 100000
set_option maxHeartbeats 1000000
namespace Nb
open PySem PySem.Spec PyProof.Rows L2 RZ
/-! ### values without dicts, made while own dicts are seen -/
mutual
def noDct : D → Bool
  | .non => true | .bl _ => true | .int _ => true | .str _ => true
  | .lst ds => noDctL ds
  | .tup ds => noDctL ds
  | _ => false
def noDctL : List D → Bool
  | [] => true
  | d :: ds => noDct d && noDctL ds
end
def viewD (τ : TauS) : Tau := τ.map fun s => match s with | some (.val d) => some d | some (.own (.dct kvs)) => some (.dct kvs) | _ => none
def evD (m : ME) : TauS → M D := fun τ => do let d ← m (viewD τ); opt (if noDct d then some d else none)
mutual
theorem rep_out {G : Gx} {r : Option Addr} {F : Fz} {H : Hp} {P : Addr → Prop} (hP : ∀ a, P a → ∃ ws, H a = some (.dK ws)) : ∀ (d : D) (v : V), noDct d = true → Rep G r F H d v → Rep G r (fun a => F a ∧ ¬ P a) H d v
  | .non, v, _, h => by simpa only [Rep] using h
  | .bl _, v, _, h => by simpa only [Rep] using h
  | .int _, v, _, h => by simpa only [Rep] using h
  | .str _, v, _, h => by simpa only [Rep] using h
  | .lst ds, v, n, h => by
    simp only [Rep] at h ⊢
    obtain ⟨a, vs, rfl, l, q⟩ := h
    refine ⟨a, vs, rfl, ⟨⟨l.1, fun p => ?_⟩, l.2⟩, repL_out hP ds vs (by simpa only [noDct] using n) q⟩
    obtain ⟨ws, e⟩ := hP a p
    rw [l.2] at e; cases e
  | .tup ds, v, n, h => by
    simp only [Rep] at h ⊢
    obtain ⟨a, vs, rfl, l, q⟩ := h
    refine ⟨a, vs, rfl, ?_, repL_out hP ds vs (by simpa only [noDct] using n) q⟩
    rcases l with l | l
    · refine .inl ⟨⟨l.1, fun p => ?_⟩, l.2⟩
      obtain ⟨ws, e⟩ := hP a p
      rw [l.2] at e; cases e
    · exact .inr l
  | .dct _, v, n, h => by simp [noDct] at n
  | .ins _ _, v, n, h => by simp [noDct] at n
  | .scr _, v, n, h => by simp [noDct] at n
  | .src, v, n, h => by simp [noDct] at n
  | .ty _, v, n, h => by simp [noDct] at n
  | .cls _, v, n, h => by simp [noDct] at n
  | .exn _ _, v, n, h => by simp [noDct] at n
theorem repL_out {G : Gx} {r : Option Addr} {F : Fz} {H : Hp} {P : Addr → Prop} (hP : ∀ a, P a → ∃ ws, H a = some (.dK ws)) : ∀ (ds : List D) (vs : List V), noDctL ds = true → RepL G r F H ds vs → RepL G r (fun a => F a ∧ ¬ P a) H ds vs
  | [], vs, _, h => by simpa only [RepL] using h
  | d :: ds, vs, n, h => by
    simp only [noDctL, Bool.and_eq_true] at n
    simp only [RepL] at h ⊢
    obtain ⟨w, ws, rfl, a, b⟩ := h
    exact ⟨w, ws, rfl, rep_out hP d w n.1 a, repL_out hP ds ws n.2 b⟩
end
/-- the own dicts -/
def PD (W : Nat → Addr → Prop) (σ : L2.St) (τ : TauS) : Addr → Prop := fun a => ∃ i kvs, τ[i]? = some (some (.own (.dct kvs))) ∧ σ[i]? = some (some (.ref a)) ∧ W i a
section
variable {G : Gx} {r : Option Addr} {F F' : Fz} {H H' : Hp} {H0 : Ht} {R : Sr} {W : Nat → Addr → Prop} {σ : L2.St} {τ : TauS}
theorem HoldS.okD (h : HoldS G r F H H0 W σ τ) (o : Ok1 r F H R) : Ok1 r (fun a => F a ∨ PD W σ τ a) H R := by
  refine ⟨fun a k => ?_, ?_⟩
  · rcases k with k | ⟨i, _, _, _, k⟩
    · exact o.fz a k
    · exact (h.sep i a k).2.2.2
  · have s := o.sr
    cases R with
    | none => exact s
    | some ns =>
      obtain ⟨b, e1, e2, e3⟩ := s
      refine ⟨b, e1, e2, fun k => ?_⟩
      rcases k with k | ⟨i, _, _, _, k⟩
      · exact e3 k
      · exact (h.sep i b k).2.1 e1
theorem HoldS.viewD (h : HoldS G r F H H0 W σ τ) : HoldT G r (fun a => F a ∨ PD W σ τ a) H σ (viewD τ) := ⟨by unfold Nb.viewD; rw [List.length_map]; exact h.len, fun i d q => by
  have mo : ∀ a, F a → (fun a => F a ∨ PD W σ τ a) a := fun a k => .inl k
  have kp : ∀ a, F a → Kp H H a := fun a _ => .of fun _ z => z
  unfold Nb.viewD at q
  rw [List.getElem?_map] at q
  cases e : τ[i]? with
  | none => rw [e] at q; cases q
  | some s =>
    rw [e] at q
    cases s with
    | none => cases q
    | some s =>
      obtain ⟨v, a, b⟩ := h.at_ i _ e
      cases s with
      | val d' =>
        cases q
        exact ⟨v, a, Rep.mono mo kp _ _ b⟩
      | own ob =>
        cases ob with
        | dct ds =>
          cases q
          obtain ⟨p, rfl, hp, vs, b1, b2⟩ := b
          refine ⟨_, a, ?_⟩
          simp only [Rep]
          exact ⟨p, vs, rfl, .inr ⟨i, ds, e, a, hp⟩, .of b1, RepK.mono mo kp _ _ b2⟩
        | lst ds => cases q
        | dl kvs => cases q
        | obj c ds => cases q⟩
theorem backD {F1 : Fz} (h : HoldS G r F H H0 W σ τ) (o : Ok1 r F H R) {R' : Sr} (o' : Ok1 r F1 H' R') (e : Ext r (fun a => F a ∨ PD W σ τ a) H F1 H') : Ok1 r (fun a => F1 a ∧ ¬ PD W σ τ a) H' R' ∧ Ext r F H (fun a => F1 a ∧ ¬ PD W σ τ a) H' := by
  refine ⟨⟨fun a k => o'.fz a k.1, ?_⟩, ⟨fun a k => ⟨e.mono a (.inl k), ?_⟩, e.same, fun a k => ?_⟩⟩
  · have s := o'.sr
    cases R' with
    | none => exact s
    | some ns =>
      obtain ⟨b, e1, e2, e3⟩ := s
      exact ⟨b, e1, e2, fun k => e3 k.1⟩
  · rintro ⟨i, _, _, _, w⟩
    exact (h.sep i a w).1 k
  · rcases e.new a k.1 with z | z
    · exact .inl (z.resolve_right k.2)
    · exact .inr z
theorem evD_ok {m : ME} : EvS G (tE G m) (evD m) := fun r H0 F0 F W τ R d R' σ H Q x o h e q => by
  obtain ⟨d', R1, e1, e2⟩ := M.bind_some e
  obtain ⟨e3, rfl⟩ := opt_some e2
  split at e3
  · rename_i hv
    cases e3
    refine ⟨r, _, Nb.viewD τ, R, d, _, h.viewD, h.okD o, e1, fun v H' F' rv o' x' => ?_⟩
    obtain ⟨o2, x2⟩ := backD h o o' x'
    refine q v H' _ (rep_out (fun a k => ?_) d v hv rv) o2 (x.trans o x2) x2 (h.ext o x2)
    obtain ⟨i, kvs, t1, t2, w⟩ := k
    obtain ⟨u, s1, p, e0, hp, ws, b1, b2⟩ := h.at_ i _ t1
    rw [t2] at s1
    cases s1
    cases e0
    exact ⟨ws, x'.same _ _ b1 (h.sep i _ w).2.1⟩
  · cases e3
end
end Nb
set_option Elab.async false
set_option linter.all false
set_option maxRecDepth 100000
set_option maxHeartbeats 1000000
namespace Nb
open PySem PySem.Spec PyProof.Rows L2 RZ
/-! ### == of own objects as a test, isinstance of an own class -/
def mOwnEqT (c : Str) (mf : List D → M D) (ma mb : ME) : Tau → M Bool := fun τ => do let x ← ma τ; let y ← mb τ; if insOf c x = true ∧ tyD c y = true then (do let d ← mf [x, y]; opt (match d with | .bl b => some b | _ => none)) else opt none
def isCD (c : Str) : List D → Option D | [x, .cls c'] => if c' = c ∧ insOf c x = true then some (.bl true) else none | _ => none
section
variable {X : Cx} {G : Gx} {k : Nat} {c m : Str} {mf : List D → M D} {a b e : Expr} {es : List Expr} {ma mb : ME} {ms : Tau → M (List D)} {p pos : Pos}
theorem st_eqI (U : MetOk X.prog X.w X.K X.mg X.base G k c "__eq__" 2 [] mf) (hr : Room k X.A) (hK : X.K = G.K) (ha : PE X a (tE G ma)) (hb : PE X b (tE G mb)) (hx : Passes CX0 X E0) (hm : behindInMarks .Eq b = false := by rfl) :
    PT X (.Compare a [.Eq] [b] pos) (tT G (mOwnEqT c mf ma mb)) := by
  obtain ⟨f, fd, ps, h1, h2, h3⟩ := met_dvs U
  refine PT.mono (pt_cmpR (op_eqI h1 hr h2 h3 .nil hx) ha hb hm) fun σ H Q h => ?_
  obtain ⟨r, F, τ, R, d, R', ht, o, e, q⟩ := h
  obtain ⟨x, R1, e1, e2⟩ := M.bind_some e
  obtain ⟨y, R2, e3, e4⟩ := M.bind_some e2
  refine ⟨r, F, τ, R, x, R1, ht, o, e1, fun u H1 F1 ru o1 x1 => ⟨r, F1, τ, R1, y, R2, ht.ext o x1, o1, e3, fun v H2 F2 rv o2 x2 => ?_⟩⟩
  split at e4
  · rename_i hc
    obtain ⟨d0, R0, e5, e6⟩ := M.bind_some e4
    obtain ⟨e7, rfl⟩ := opt_some e6
    have ru2 := x2.rep o1 ru
    obtain ⟨n, dx, vs, rfl, l⟩ := insOf_rep hc.1 ru2
    refine ⟨n, dx, _, rfl, l, tyD_rep hK rv hc.2, r, F2, [x, y], R2, d0, _, ?_, o2, rfl, e5, fun w H' F' rw o' x' => ?_⟩
    · simp only [List.append_nil, RepL]
      exact ⟨_, _, rfl, ru2, v, [], rfl, rv, rfl⟩
    · split at e7
      · cases e7
        simp only [Rep] at rw
        exact ⟨_, rw, q H' F' o' ((x1.trans o1 x2).trans o2 x')⟩
      · cases e7
  · cases (opt_some e4).1
theorem d_isC (I : C8.InsC X.K (G.ca c)) : CallD G (fun xs H Q => ∃ a dx fs, xs = [.ref a, .ref (G.ca c)] ∧ H a = some (.ins (G.ca c) dx fs) ∧ Q (.bl true) H) (isCD c) := by
  intro r F H R xs us d Q o ru e q
  unfold isCD at e
  split at e
  · rename_i x c'
    split at e
    · rename_i hc
      cases e
      obtain ⟨rfl, hi⟩ := hc
      simp only [RepL] at ru
      obtain ⟨u, _, rfl, r1, w, _, rfl, r2, rfl⟩ := ru
      simp only [Rep] at r2
      subst r2
      obtain ⟨n, dx, vs, rfl, l⟩ := insOf_rep hi r1
      exact ⟨n, dx, _, rfl, l, q _ H F (by simp only [Rep]) o .refl⟩
    · cases e
  · cases e
theorem se_isC (I : C8.InsC X.K (G.ca c)) (hm : X.mg "isinstance" = none) (ha : PA X (e :: es) (tA G ms)) (hg : Gl X "isinstance" := by rfl)
    (hs : starEach (e :: es) X.env = (false, eval e X.env) :: starEach es X.env := by rfl) (hpl : (backTo pos (starEach es X.env)).any (·.1) = false := by rfl) :
    PE X (.Call (.Name "isinstance" p) (e :: es) [] pos) (tE G (mFun (isCD c) ms)) :=
  se_callB (C8.call_isC I) (d_isC I) hg hm (by decide +kernel) ha (by decide) (by decide) hs hpl
end
/-- what isinstance asks of an own class, by one look -/
def insB (K : PySem.W.Frag) (C : Addr) : Bool := (PySem.W.findIn K (.ref C) "__class__" == some (some (.builtin "object.__class__"))) && ((PySem.W.specialIn K (.builtin "object.__class__") "__get__" == some (some (.builtin "getset_descriptor.__get__"))) &&
  ((PySem.W.takesIn K (.builtin "object.__class__") == some true) && ((PySem.W.mroIn K C (.type "object") == some true) && (PySem.W.kitOne K (.ref C) (.ref C) == some true))))
theorem insB_ok {K : PySem.W.Frag} {C : Addr} (c : Cls K C) (b : insB K C = true) : C8.InsC K C := by
  unfold insB at b
  simp only [Bool.and_eq_true, beq_iff_eq] at b
  obtain ⟨b1, b2, b3, b4, b5⟩ := b
  exact ⟨c, b1, b2, b3, b4, b5⟩
end Nb
set_option Elab.async false
set_option linter.all false
set_option maxRecDepth 100000
set_option maxHeartbeats 1000000
/-! enumerate of a tuple -/
namespace PySem
open Sem (wp)
theorem enumT_new (t : Addr) (its : Array Value) : Meets (Builtin.«enumerate.__new__» ⟨[.type "enumerate", .ref t], []⟩) (fun _ R s => s.heap.IsTuple t its ∧
    R (.ok (.ret (.ref (s.heap.push { cls := .type "tuple_iterator", data := .fields #[.ref t, .int 0 0] }).objs.size))) { s with heap := (s.heap.push { cls := .type "tuple_iterator", data := .fields #[.ref t, .int 0 0] }).push { cls := .type "enumerate", data := .fields #[.none, .bool false, .ref s.heap.objs.size, rawInt 0, .none, .none] } }) := .of_wp fun prog w A R s h => by
  obtain ⟨hp, g, d, tk, os⟩ := s
  obtain ⟨hl, h⟩ := h
  have hsub := sub_enumerate
  have hL : Heap.IsTuple (Shared.heap ⟨hp, g, d, tk, os⟩) t its := hl
  obtain ⟨o, ho, hc, n, hd⟩ := id hl
  wp_walk using AutoSeq1.wpAny_loadPart' ho
  refine wpAny_stack_any fun st => wpAny_pure ?_
  split
  · rename_i c _ _ _ _ _
    cases (c == Value.type "enumerate") <;> (wp_walk using AutoSeq1.wpAny_loadPart' ho, wpAny_pyIter_tuple hL; exact ⟨_, rfl, h⟩)
  · wp_walk using AutoSeq1.wpAny_loadPart' ho, wpAny_pyIter_tuple hL; exact ⟨_, rfl, h⟩
section
variable {prog : Program} {w : World} {A : Around} {E : Value → Shared → Prop} {s : Shared}
theorem call_enumT {t : Addr} {its : Array Value} {Q : Value → Shared → Prop} (hL : s.heap.IsTuple t its)
    (k : ∀ h', IsEnum h' (s.heap.objs.size + 1) s.heap.objs.size 0 .none → h'.IsTupleIter s.heap.objs.size t 0 → (∀ b o, s.heap.get? b = some o → h'.get? b = some o) → Q (.ref (s.heap.objs.size + 1)) { s with heap := h' }) :
    wpAny (model prog w) A (call (.type "enumerate") [.ref t]) Q E s := by
  refine callType_new F.called_enumerate (by decide) (F.typeCall_enumerate_1 _) (F.newCall_enumerate_1 _) (fun obj => F.args_object_init_2 obj _) F.entry_enumerate_new (enumT_new t its) ⟨hL, ?_⟩
  have z : (s.heap.push { cls := .type "tuple_iterator", data := .fields #[.ref t, .int 0 0] }).objs.size = s.heap.objs.size + 1 := Heap.size_push ..
  have g1 := Heap.get?_push_size (s.heap.push { cls := .type "tuple_iterator", data := .fields #[.ref t, .int 0 0] }) (o := { cls := .type "enumerate", data := .fields #[.none, .bool false, .ref s.heap.objs.size, rawInt 0, .none, .none] }) rfl
  rw [z] at g1
  show _ ∧ _
  rw [z]
  exact ⟨⟨_, g1, rfl⟩, k _ g1 ⟨_, Heap.get?_push_of_some _ (Heap.get?_push_size _ rfl), rfl, rfl⟩ fun b o x => Heap.get?_push_of_some _ (Heap.get?_push_of_some _ x)⟩
theorem enumT_end {e it t : Addr} {i : Nat} {j : Int} {its : Array Value} {old : Value} {Q : Option Value → Shared → Prop} (hh : A.handled = none) (he : IsEnum s.heap e it j old) (hit : s.heap.IsTupleIter it t i) (ht : s.heap.IsTuple t its) (hx : its[i]? = none)
    (hQ : ∀ h', Heap.ExtBut it s.heap h' → Q none { s with heap := h' }) : wpAny (model prog w) A (pyNext (.ref e)) Q E s := by
  have hT : s.TypeIs (.ref e) "enumerate" := ⟨_, he, rfl⟩
  unfold pyNext
  refine wpAny_bind (wpAny_attempt (wpAny_callSpecial?_slot (name := Str.ofString "__next__") hT F.slot_enumerate_next (wpAny_call_entry F.slot_enumerate_next hT F.entry_enumerate_next ?_ (F.args_enumerate_next_1 _))))
  show wpAny _ _ (field (.ref e) 2 >>= _) _ _ _
  refine wpAny_bind (wpAny_field he rfl (x := .ref it) rfl (wpAny_bind (wpAny_nextOf_tuple_end hh hit ht hx fun h' x he' hx' => ?_)))
  obtain ⟨o, ho, hc⟩ := hx'
  exact wpAny_bind (wpAny_isInstance (T := "StopIteration") (b := true) ⟨o, ho, hc⟩ isSubtype_stop (wpAny_pure (hQ _ he')))
end
end PySem
namespace L2
open PySem PySem.Spec PyProof.Rows
/-- the tuple at a, each item in a new pair with its number -/
def IteT (K : PySem.W.Frag) (a : Addr) : It :=
  ⟨fun i H => ∃ (xs : List V) (x : V), SqT K H a xs ∧ xs[i]? = some x, fun i H v H' => ∃ T x, v = .ref T ∧ H T = none ∧ H' = upd H T (.tup [.int (i : Nat), x]) ∧ ∀ xs, SqT K H a xs → xs[i]? = some x, fun i H => ∃ xs : List V, SqT K H a xs ∧ xs.length ≤ i⟩
theorem tup_apart {h : Heap} {it e t : Addr} {i : Nat} {j : Int} {old : Value} {its : Array Value} (hi : h.IsTupleIter it t i) (ht : h.IsTuple t its) (he : IsEnum h e it j old) : t ≠ it ∧ e ≠ t := by
  obtain ⟨o1, g1, c1, _⟩ := hi
  obtain ⟨o2, g2, c2, _⟩ := ht
  refine ⟨fun z => ?_, fun z => ?_⟩
  · subst z
    rw [g1] at g2
    cases g2
    rw [c1] at c2
    exact absurd (Value.type.inj c2) (by decide)
  · subst z
    have he : h.get? e = some _ := he
    rw [he] at g2
    cases g2
    exact absurd (Value.type.inj c2) (by decide)
theorem turn_enumT {P : Program} {w : World} {K : PySem.W.Frag} {elts : List Expr} {kk : Nat} {tpos : Pos} (a e it : Addr) : Turn P w K (.Tuple elts kk tpos) (IteT K a) [e, it] e (fun i h => (∃ old, IsEnum h e it ((i : Nat) : Int) old) ∧ h.IsTupleIter it a i ∧ e ≠ it) where
  mem := by simp
  obj := fun i h st b hb => by
    obtain ⟨⟨old, he⟩, ⟨o, ho, hc, hd⟩, _⟩ := st
    rcases (show b = e ∨ b = it by simpa using hb) with rfl | rfl
    · exact ⟨_, he, fun v q => nomatch q⟩
    · exact ⟨o, ho, fun v q => by rw [hd] at q; cases q⟩
  keep := fun i h h' st k => let ⟨⟨old, he⟩, hi, hne⟩ := st; ⟨⟨old, k e (by simp) _ he⟩, hi.at fun o q => k it (by simp) o q, hne⟩
  item := by
    intro X hP hw hK hc i pins s σ H E I hf st hg
    subst hP hw hK
    obtain ⟨⟨old, he⟩, hit, hne⟩ := st
    obtain ⟨xs, x, hq, hx⟩ := hg
    obtain ⟨its, rv, p, hz⟩ := I.tuple hq
    obtain ⟨u, hu, ru⟩ := rv.get hx
    have hel : e < s.heap.objs.size := Heap.lt_size he
    have hil : it < s.heap.objs.size := by obtain ⟨_, q, _⟩ := hit; exact Heap.lt_size q
    obtain ⟨n1, n2⟩ := tup_apart hit p he
    have hlt : i < its.toArray.size := by
      have := (List.getElem?_eq_some_iff.mp hu).1
      simpa using this
    refine wpAny_pyNext_enum_itemD (Draws.tuple (A := X.A.in1) (I.ok.hd hc) it a n1 its.toArray) he ⟨hit, p⟩ hlt hne (by simp [hne, n2]) fun y h' tk py ho hit' hT hsz hk => ?_
    have ey : y = u := by
      have py : its.toArray[i]? = some y := py
      have : its.toArray[i]? = some u := by simpa using hu
      rw [this] at py
      exact (Option.some.inj py).symm
    subst ey
    refine ⟨_, rfl, wpAny_letOwnedTupleGo_enum (s := { s with heap := h', toks := tk + 1 }) ho fun h'' he' sb => ?_⟩
    have hT2 : h''.get? s.heap.objs.size = some { cls := .type "tuple", data := .seq #[.int i tk, y] } := (sb.2 _ (Nat.ne_of_gt hel)).trans hT
    have new : ObjOk X.prog X.w (upd H s.heap.objs.size (.tup [.int (i : Nat), x])) h'' s.heap.objs.size (.tup [.int (i : Nat), x]) := ⟨by show 2 ≤ sizeLine; decide, [.int i tk, y], .cons ⟨_, rfl⟩ (.cons ru .nil), ⟨_, hT2, rfl, _, rfl⟩⟩
    have I1 : Inv X pins σ (upd H s.heap.objs.size (.tup [.int (i : Nat), x])) { s with heap := h'', toks := tk + 1 } :=
      I.turnedNew (ch := [e, it]) (fun b ob hb q => (sb.2 b (fun z => hb (by simp [z]))).trans (hk b ob (fun z => hb (by simp [z])) (fun z => hb (by simp [z])) q)) hf (Nat.le_refl _) new
    refine ⟨.ref s.heap.objs.size, _, I1, rfl, ⟨_, x, rfl, I.hok.fresh (Nat.le_refl _), rfl, fun ys hy => by rw [I.tuple_inj hy hq]; exact hx⟩, ⟨⟨y, ?_⟩, hit'.1.at fun o q => (sb.2 it (Ne.symm hne)).trans q, hne⟩, fun b hb => ?_⟩
    · rw [show ((i + 1 : Nat) : Int) = (i : Int) + 1 by omega]
      exact he'
    · have hb' : b < s.heap.objs.size := by rcases (show b = e ∨ b = it by simpa using hb) with rfl | rfl <;> assumption
      rw [upd_ne (Nat.ne_of_lt hb')]
      exact (hf b hb).1
  done := by
    intro X hP hw hK hc i pins s σ H E I hf st hg
    subst hP hw hK
    obtain ⟨⟨old, he⟩, hit, hne⟩ := st
    obtain ⟨xs, hq, hx⟩ := hg
    obtain ⟨its, rv, p, hz⟩ := I.tuple hq
    obtain ⟨f0, f1, f2, f3, f4, f5⟩ := hf it (by simp)
    have hl := rv.length
    obtain ⟨n1, n2⟩ := tup_apart hit p he
    exact enumT_end (I.ok.hd hc) he hit p (by simp; omega) fun h' eb => ⟨rfl, I.turned (t' := s.toks) (fun b o hb q => eb b o hb q) f0 f1 f3 f4 f5⟩
  self := fun A i s Q E st h => let ⟨⟨_, he⟩, _⟩ := st; wpAny_pyIter_enum he h
end L2
set_option Elab.async false
set_option linter.all false
set_option maxRecDepth 100000
set_option maxHeartbeats 1000000
namespace L2
open PySem PySem.Spec PyProof.Rows
def iEnum3 (K : PySem.W.Frag) (ta : TA) : TI := fun σ H R => ta σ H fun vs H1 => ∃ a xs, vs = [.ref a] ∧ ((SqL K H1 a xs ∧ R (Ite K a) H1) ∨ (SqT K H1 a xs ∧ R (IteT K a) H1))
theorem pi_enum3 {X : Cx} {e : Expr} {ta : TA} {p pos tpos : Pos} {elts : List Expr} {kk : Nat} (hg : Gl X "enumerate") (hm : X.mg "enumerate" = none) (ha : PA X [e] ta) (hs : starEach [e] X.env = [(false, eval e X.env)] := by rfl) : PI X (.Tuple elts kk tpos) (.Call (.Name "enumerate" p) [e] [] pos) (iEnum3 X.K ta) := by
  refine ⟨fun pins s σ H R I h => Call_ (ld_blt I hg hm boot_enumerate (PyProof.Rows.callWith_type1 (thn (ha.run pos pins s σ H _ I h) fun us s1 ⟨vs, H1, I1, r1, q1⟩ => ?_) hs rfl))⟩
  obtain ⟨a, xs, ex, q⟩ := q1
  subst ex
  cases r1 with
  | cons r rr =>
    cases rr
    cases r
    have fr : ∀ b ∈ [s1.heap.objs.size + 1, s1.heap.objs.size], s1.heap.objs.size ≤ b := fun b hb => by
      rcases (show b = s1.heap.objs.size + 1 ∨ b = s1.heap.objs.size by simpa using hb) with z | z <;> omega
    rcases q with ⟨hq, q⟩ | ⟨hq, q⟩
    · obtain ⟨its, rv, p', hz⟩ := I1.list hq
      exact call_enumerate_list p'.isList fun h' he hit hsz hk => wpAny_pyIter_enum he ⟨s1.heap.objs.size + 1, [s1.heap.objs.size + 1, s1.heap.objs.size], _, _, H1, rfl, I1.kept (t' := s1.toks) hk, turn_enum a (s1.heap.objs.size + 1) s1.heap.objs.size, ⟨⟨.none, he⟩, hit, Nat.succ_ne_self _⟩, fun b hb => I1.fpOk (fr b hb) (I1.hok.fresh (fr b hb)), q⟩
    · obtain ⟨its, rv, p', hz⟩ := I1.tuple hq
      exact call_enumT p' fun h' he hit hk => wpAny_pyIter_enum he ⟨s1.heap.objs.size + 1, [s1.heap.objs.size + 1, s1.heap.objs.size], _, _, H1, rfl, I1.kept (t' := s1.toks) hk, turn_enumT a (s1.heap.objs.size + 1) s1.heap.objs.size, ⟨⟨.none, he⟩, hit, Nat.succ_ne_self _⟩, fun b hb => I1.fpOk (fr b hb) (I1.hok.fresh (fr b hb)), q⟩
end L2
set_option Elab.async false
set_option linter.all false
set_option maxRecDepth 100000
set_option maxHeartbeats 1000000
namespace Nb
open PySem PySem.Spec PyProof.Rows L2 RZ
section
variable {G : Gx} {r : Option Addr} {F : Fz} {H : Hp} {R : Sr}
theorem walks_enumT {a : Addr} {vs : List V} {ds : List D} (l : TupAt G.K F H a vs) (q : RepL G r F H ds vs) : WalksI G r F H (IteT G.K a) (enumD ds) := fun F' H' R' st o i => by
  have l' : SqT G.K H' a vs := (l.mono st.1 st.2.1).sq
  have q' := st.repL q
  unfold enumD
  refine ⟨fun hi => ?_, fun hi => ?_, fun x H'' y d hd => ?_⟩
  · rw [List.length_mapIdx] at hi
    obtain ⟨v, e, _⟩ := q'.get (List.getElem?_eq_getElem hi)
    exact ⟨vs, v, l', e⟩
  · rw [List.length_mapIdx] at hi
    exact ⟨vs, l', by rw [← q'.length]; exact hi⟩
  · obtain ⟨T, x', rfl, hT, rfl, y⟩ := y
    rw [List.getElem?_mapIdx] at hd
    cases e0 : ds[i]? with
    | none => rw [e0] at hd; cases hd
    | some d0 =>
      rw [e0] at hd; cases hd
      obtain ⟨v, e, rv⟩ := q'.get e0
      have e2 := y vs l'
      rw [e] at e2
      cases e2
      have q2 : RepL G r F' H' [.int (i : Nat), d0] [.int (i : Nat), x'] := by
        simp only [RepL, Rep]
        exact ⟨_, _, rfl, rfl, _, _, rfl, rv, rfl⟩
      exact ⟨_, rep_tup o hT q2, (new_frozen o hT).1, (new_frozen o hT).2⟩
end
def enumF3 : List D → Option (List D) | [.lst ds] => some (enumD ds) | [.tup ds] => some (enumD ds) | _ => none
section
variable {X : Cx} {G : Gx} {e : Expr} {ms : Tau → M (List D)} {p pos tpos : Pos} {elts : List Expr} {kk : Nat}
theorem si_enum3 (hK : X.K = G.K) (hm : X.mg "enumerate" = none) (ha : PA X [e] (tA G ms)) (hg : Gl X "enumerate" := by rfl) (hs : starEach [e] X.env = [(false, eval e X.env)] := by rfl) : PI X (.Tuple elts kk tpos) (.Call (.Name "enumerate" p) [e] [] pos) (tI G (mFunI enumF3 ms)) :=
  PI.mono (pi_enum3 hg hm ha hs) fun σ H Q h => tAI h fun r F R xs us H1 ds o ru e q => by
    unfold enumF3 at e
    split at e
    · cases e
      obtain ⟨v, rfl, r1⟩ := ru.single
      simp only [Rep] at r1
      obtain ⟨n, vs, rfl, l, q1⟩ := r1
      exact ⟨n, vs, rfl, .inl ⟨l.sq, by rw [hK]; exact q _ H1 F (walks_enum l q1) o .refl⟩⟩
    · cases e
      obtain ⟨v, rfl, r1⟩ := ru.single
      simp only [Rep] at r1
      obtain ⟨n, vs, rfl, l, q1⟩ := r1
      exact ⟨n, vs, rfl, .inr ⟨by rw [hK]; exact l.sq, by rw [hK]; exact q _ H1 F (walks_enumT l q1) o .refl⟩⟩
    · cases e
end
end Nb
set_option Elab.async false
set_option linter.all false
set_option maxRecDepth 100000
set_option maxHeartbeats 1000000
/-! list(d.items()), xs[::-1], dict(pairs), d.clear(), f(..).append(e), is not False, isinstance of an own class otherwise -/
namespace L2
open PySem PySem.Spec PyProof.Rows
section
variable {X : Cx} {e : Expr} {te : TE} {p apos cpos pos : Pos}
def tItemsR (te : TE) : TE := fun σ H Q => te σ H fun x H1 => ∃ (a : Addr) (ws : List (Key × V)), x = V.ref a ∧ Rd H1 a (.dK ws) ∧ ∀ (H2 : Hp) (l : Addr) (as : List Addr), (∀ b o, H1 b = some o → H2 b = some o) → H1 l = none → (∀ t ∈ as, H1 t = none) → H2 l = some (.lst (as.map V.ref)) →
  Paired (fun (t : Addr) (q : Key × V) => H2 t = some (.tup [kV q.1, q.2])) as ws → Q (.ref l) H2
/-- list(e.items()), e locked or not -/
theorem pe_itemsR (hc : X.calm = true) (he : PE X e te) (hg : Gl X "list") (hm : X.mg "list" = none) (hv : bootBuiltins "list" = some (.type "list")) (hb : attributeBase e "items" X.env (eval e X.env) = eval e X.env := by rfl) (hl : (apos.endLine == cpos.line) = true := by rfl)
    (hs : starEach [.Call (.Attribute e "items" apos) [] [] cpos] X.env = (false, eval (.Call (.Attribute e "items" apos) [] [] cpos) X.env) :: starEach [] X.env := by rfl) : PE X (.Call (.Name "list" p) [.Call (.Attribute e "items" apos) [] [] cpos] [] pos) (tItemsR te) := by
  refine ⟨fun pins s σ H Q I hq => wpAny_Call_Name_kw (ld_blt I hg hm hv (PyProof.Rows.callWith_type1 ?_ hs rfl))⟩
  rw [hs]
  show wpAny _ _ (spliced ((false, eval (.Call (.Attribute e "items" apos) [] [] cpos) X.env) :: backTo pos (starEach [] X.env))) _ _ s
  refine Calls.spliced_cons (wpAny_Call_method (T := "dict") (id := "dict.items") hb rfl hl F.plainAttrs_dict F.slot_dict_items F.type_dict_items (thn (he.run pins s σ H _ I hq) fun u s1 ⟨x, H1, I1, rx, d, kvs, ex, hd, q⟩ => ?_))
  subst ex
  obtain rfl : u = Value.ref d := rx
  obtain ⟨hz, hs0, vs, kv, hdo⟩ := dk_rd I1.hok hd
  obtain ⟨ep, hat⟩ := hdo.dictAt
  have lk : kvs.length = vs.length := Paired.length kv
  have I2 : Inv X pins σ H1 { s1 with heap := s1.heap.push { cls := .type "dict_items", data := .fields #[.ref d] } } := I1.kept (t' := s1.toks) fun b ob q => Heap.get?_push_of_some _ q
  refine ⟨hdo.typeIs, hdo.mapOf.noDict, ?_⟩
  show wpAny _ _ (callWith cpos (.builtin "dict.items") [.ref d] [] []) _ X.xe s1
  refine method_meetsIn F.slot_dict_items F.entry_dict_items rfl (PySem.evalArgs_none ⟨rfl, hdo.typeIs, F.args_dict_items_1 _, _, meets_dict_items (mixKind X.prog X.w) d hs0, ⟨vs, hdo⟩, Calls.spliced_nil ?_⟩)
  refine PySem.W.kdx_call (knd := mixKind X.prog X.w) (kvs := vs) (ep := ep) (I1.ok.hd hc) ⟨_, Heap.get?_push_size _ rfl, rfl, rfl⟩ (hat.push _) (by omega) fun h' tk acc c as hk hS hl hG hacc => ?_
  obtain ⟨H', k1, k2, k3, k4, k5, k6, J⟩ := LiI.items_laid (tk := tk) I2 hz kv hk hS hl hG hacc
  exact ⟨.ref _, H', J, rfl, q H' _ as k1 k2 k3 k5 k6⟩
end
end L2
namespace Nb
open PySem PySem.Spec PyProof.Rows L2 RZ
theorem repL_items {G : Gx} {r : Option Addr} {F F2 : Fz} {H H2 : Hp} (ex : ∀ d v, Rep G r F H d v → Rep G r F2 H2 d v) : ∀ {kvs : List (Key × D)} {ws : List (Key × V)} {as : List Addr}, RepK G r F H kvs ws → Paired (fun (t : Addr) (q : Key × V) => H2 t = some (.tup [kV q.1, q.2])) as ws → (∀ t ∈ as, F2 t) → RepL G r F2 H2 (itemsD kvs) (as.map V.ref)
  | [], ws, as, h, k, _ => by
    simp only [RepK] at h
    subst h
    cases k
    simp only [itemsD, List.map_nil, RepL]
  | (j, d) :: kvs, ws, as, h, k, m => by
    simp only [RepK] at h
    obtain ⟨w, ws, rfl, a, b⟩ := h
    cases k with
    | @cons t _ as _ h1 h2 =>
      simp only [itemsD, List.map_cons, RepL, Rep]
      refine ⟨_, _, rfl, ⟨t, [kV j, w], rfl, .inl ⟨m t List.mem_cons_self, h1⟩, _, _, rfl, rep_key, _, _, rfl, ex d w a, rfl⟩, ?_⟩
      exact repL_items ex b h2 fun t ht => m t (List.mem_cons_of_mem _ ht)
def itF : D → Option D | .dct kvs => some (.lst (itemsD kvs)) | _ => none
def revF : D → Option D | .lst ds => some (.lst ds.reverse) | _ => none
section
variable {X : Cx} {G : Gx} {a b c e o : Expr} {es : List Expr} {ma mb : ME} {ms : Tau → M (List D)} {p p1 p2 p3 pos apos cpos : Pos} {k : Nat}
theorem se_items (hc : X.calm = true) (hm : X.mg "list" = none) (he : PE X e (tE G ma)) (hg : Gl X "list" := by rfl) (hb : attributeBase e "items" X.env (eval e X.env) = eval e X.env := by rfl) (hl : (apos.endLine == cpos.line) = true := by rfl)
    (hs : starEach [.Call (.Attribute e "items" apos) [] [] cpos] X.env = (false, eval (.Call (.Attribute e "items" apos) [] [] cpos) X.env) :: starEach [] X.env := by rfl) : PE X (.Call (.Name "list" p) [.Call (.Attribute e "items" apos) [] [] cpos] [] pos) (tE G (mFun1 itF ma)) :=
  PE.mono (pe_itemsR hc he hg hm (by decide +kernel) hb hl hs) fun σ H Q h => tE.one (k := fun x => opt (itF x)) h fun r F R x u H1 d R' o ru e q => by
    obtain ⟨e0, rfl⟩ := opt_some e
    unfold itF at e0
    split at e0
    · cases e0
      simp only [Rep] at ru
      obtain ⟨n, ws, rfl, f, l, q1⟩ := ru
      refine ⟨n, ws, rfl, l, fun H2 l2 as h1 h2 h3 h4 h5 => ?_⟩
      have xx : Ext r F H1 (fun a => F a ∨ a = l2 ∨ a ∈ as) H2 := ⟨fun a h => .inl h, fun a u h _ => h1 a u h, fun a h => by
        rcases h with h | h | h
        · exact .inl h
        · exact .inr (h ▸ h2)
        · exact .inr (h3 a h)⟩
      have oo : Ok1 r (fun a => F a ∨ a = l2 ∨ a ∈ as) H2 R' := by
        refine ⟨fun a h => ?_, ?_⟩
        · rcases h with h | h | h
          · obtain ⟨u, q⟩ := o.fz a h; exact ⟨u, h1 a u q⟩
          · exact ⟨_, by rw [h]; exact h4⟩
          · obtain ⟨j, y, f1, f2, f3⟩ := LiI.paired_ix h5 h
            exact ⟨_, f3⟩
        · have s := o.sr
          cases R' with
          | none => exact s
          | some ns =>
            obtain ⟨b, e1, e2, e3⟩ := s
            refine ⟨b, e1, h1 _ _ e2, fun z => ?_⟩
            rcases z with z | z | z
            · exact e3 z
            · rw [z, h2] at e2; cases e2
            · rw [h3 b z] at e2; cases e2
      refine q _ H2 _ ?_ oo xx
      simp only [Rep]
      exact ⟨l2, _, rfl, ⟨.inr (.inl rfl), h4⟩, repL_items (fun d v => xx.rep o) q1 h5 fun t ht => .inr (.inr ht)⟩
    · cases e0
theorem se_rev (hK : X.K = G.K) (he : PE X e (tE G ma)) : PE X (.Subscript e (.Slice none none (some (.UnaryOp .USub (.Constant (.int 1) k p1) p2)) p3) pos) (tE G (mFun1 revF ma)) :=
  PE.mono (pe_revL he) fun σ H Q h => tE.one (k := fun x => opt (revF x)) h fun r F R x u H1 d R' o ru e q => by
    obtain ⟨e0, rfl⟩ := opt_some e
    unfold revF at e0
    split at e0
    · cases e0
      simp only [Rep] at ru
      obtain ⟨n, vs, rfl, l, q1⟩ := ru
      exact ⟨n, vs, rfl, l.sq, fun l2 h2 => q _ _ _ (rep_lst o h2 q1.reverse) (new_frozen o h2).1 (new_frozen o h2).2⟩
    · cases e0
/-! dict of a list of pairs -/
def pairsD : List D → Option (List (Key × D))
  | [] => some []
  | .tup [k, d] :: ds => (keyD k).bind fun k' => (pairsD ds).map fun r => (k', d) :: r
  | _ => none
def mergeD (kvs more : List (Key × D)) : List (Key × D) := more.foldl (fun acc kv => putD acc kv.1 kv.2) kvs
theorem RepK.merge {r F H} : ∀ {more : List (Key × D)} {ms : List (Key × V)} {kvs : List (Key × D)} {ws : List (Key × V)}, RepK G r F H more ms → RepK G r F H kvs ws → RepK G r F H (mergeD kvs more) (mergeK ws ms)
  | [], ms, kvs, ws, h, q => by simp only [RepK] at h; subst h; exact q
  | (k, d) :: more, ms, kvs, ws, h, q => by
    simp only [RepK] at h
    obtain ⟨w, ms, rfl, a, b⟩ := h
    show RepK G r F H (mergeD (putD kvs k d) more) (mergeK (putK ws k w) ms)
    exact RepK.merge b (q.put k a)
theorem pairs_rep {r F H} : ∀ {ds : List D} {vs : List V} {kvs : List (Key × D)}, RepL G r F H ds vs → pairsD ds = some kvs → ∃ (ps : List Addr) (ws : List (Key × V)), vs = ps.map V.ref ∧ Paired (fun p (kv : Key × V) => SqT G.K H p [kV kv.1, kv.2]) ps ws ∧ RepK G r F H kvs ws
  | [], vs, kvs, h, e => by
    simp only [RepL] at h
    subst h
    cases e
    exact ⟨[], [], rfl, .nil, by simp only [RepK]⟩
  | d :: ds, vs, kvs, h, e => by
    unfold pairsD at e
    split at e
    · rename_i h0; cases h0
    · rename_i k d' ds' h0
      cases h0
      cases ek : keyD k with
      | none => rw [ek] at e; cases e
      | some k' =>
        cases er : pairsD ds with
        | none => rw [ek, er] at e; cases e
        | some rest =>
          rw [ek, er] at e
          cases e
          simp only [RepL, Rep] at h
          obtain ⟨w, ws, rfl, ⟨a, _, rfl, l, w1, _, rfl, q1, w2, _, rfl, q2, rfl⟩, h'⟩ := h
          obtain ⟨ps, ws', rfl, e2, e3⟩ := pairs_rep h' er
          have := Rep.key q1 ek
          subst this
          exact ⟨a :: ps, (k', w2) :: ws', rfl, .cons l.sq e2, by simp only [RepK]; exact ⟨_, _, rfl, q2, e3⟩⟩
    · cases e
def dctPO : List D → Option Own | [.lst ds] => (pairsD ds).map fun kvs => .dct (mergeD [] kvs) | _ => none
theorem o_dctP : CallO G (fun xs H Q => ∃ (a : Addr) (ps : List Addr) (kvs : List (Key × V)), xs = [.ref a] ∧ SqL G.K H a (ps.map V.ref) ∧ Paired (fun p kv => SqT G.K H p [kV kv.1, kv.2]) ps kvs ∧ ∀ p, H p = none → Q (.ref p) (upd H p (.dK (mergeK [] kvs)))) dctPO := by
  intro r F H R xs us d Q o ru e q
  unfold dctPO at e
  split at e
  · rename_i ds
    cases ep : pairsD ds with
    | none => rw [ep] at e; cases e
    | some kvs =>
      rw [ep] at e
      cases e
      obtain ⟨v, rfl, r1⟩ := ru.single
      simp only [Rep] at r1
      obtain ⟨a, vs, rfl, l, q1⟩ := r1
      obtain ⟨ps, ws, rfl, h1, h2⟩ := pairs_rep q1 ep
      refine ⟨a, ps, ws, rfl, l.sq, h1, fun n hn => ?_⟩
      obtain ⟨f1, f2, f3, f4⟩ := own_dct o hn (RepK.merge h2 (show RepK G r F H [] [] by simp only [RepK]))
      exact q n _ _ hn f1 f2 f3 f4
  · cases e
def dictO2 : List D → Option Own := fun xs => (dctO xs).or (dctPO xs)
theorem so_dict2 (hK : X.K = G.K) (hc : X.calm = true) (hm : X.mg "dict" = none) (ha : PA X [e] (tA G ms)) (hg : Gl X "dict" := by rfl) (hs : starEach [e] X.env = (false, eval e X.env) :: starEach [] X.env := by rfl) (hpl : (backTo pos (starEach [] X.env)).any (·.1) = false := by rfl) :
    PE X (.Call (.Name "dict" p) [e] [] pos) (tW G (mFunO dictO2 ms)) :=
  PE.mono (pe_callTy (call_dictD.or (call_dictP hc)) hg hm (by decide +kernel) ha (by decide) (by decide) hs hpl) fun σ H Q h => by
    have := funO_ok (CallO.or (o_dct (G := G)) o_dctP) h
    rw [← hK] at this
    exact this
/-! is not, of truth values -/
def notB2 : D → D → Option Bool | .bl a, .bl b => some (!decide (a = b)) | _, _ => none
theorem d_notB2 : OpB G (fun x y H Q => ∃ a b, x = .bl a ∧ y = .bl b ∧ Q (.bl (!decide (a = b))) H) notB2 := by
  intro r F H R x y u v b Q o ru rv e q
  unfold notB2 at e
  split at e
  · cases e
    simp only [Rep] at ru rv
    exact ⟨_, _, ru, rv, q⟩
  · cases e
theorem st_notB2 (ha : PE X a (tE G ma)) (hb : PE X b (tE G mb)) (hm : behindInMarks .IsNot b = false := by rfl) : PT X (.Compare a [.IsNot] [b] pos) (tT G (mCmp notB2 ma mb)) := st_cmp op_isnot_bl d_notB2 ha hb hm
/-! isinstance of an own class, of what is none -/
def isCF (c : Str) : List D → Option D | [x, .cls c'] => if c' = c ∧ (tyN x).isSome = true then some (.bl false) else none | _ => none
def InsF (K : PySem.W.Frag) (C : Addr) : Prop := ∀ T ∈ ["NoneType", "bool", "int", "str", "list", "tuple", "dict"], PySem.W.kitOne K (.type T) (.ref C) = some false
theorem d_isCF {c : Str} (I : InsF G.K (G.ca c)) : CallD G (rIsi G.K) (isCF c) := by
  intro r F H R xs us d Q o ru e q
  unfold isCF at e
  split at e
  · rename_i x c'
    split at e
    · rename_i hc
      cases e
      obtain ⟨rfl, ht⟩ := hc
      obtain ⟨t, ht⟩ := Option.isSome_iff_exists.mp ht
      obtain ⟨u, v, rfl, r1, r2⟩ := ru.pair
      simp only [Rep] at r2
      subst r2
      refine ⟨u, _, .type t, .ref (G.ca c'), false, rfl, .own _, r1.ty ht, I t ?_, q _ H F (by simp only [Rep]) o .refl⟩
      cases x <;> simp only [tyN] at ht <;> cases ht <;> decide
    · cases e
  · cases e
def isC2 (c : Str) : List D → Option D := fun xs => (isCD c xs).or (isCF c xs)
theorem se_isC2 {c : Str} (hK : X.K = G.K) (I : C8.InsC X.K (G.ca c)) (J : InsF X.K (G.ca c)) (hm : X.mg "isinstance" = none) (ha : PA X (e :: es) (tA G ms)) (hg : Gl X "isinstance" := by rfl)
    (hs : starEach (e :: es) X.env = (false, eval e X.env) :: starEach es X.env := by rfl) (hpl : (backTo pos (starEach es X.env)).any (·.1) = false := by rfl) : PE X (.Call (.Name "isinstance" p) (e :: es) [] pos) (tE G (mFun (isC2 c) ms)) :=
  se_callB (CallR.or (C8.call_isC I) call_isi) (by rw [hK] at J ⊢; exact CallD.or (d_isC I) (d_isCF J)) hg hm (by decide +kernel) ha (by decide) (by decide) hs hpl
end
end Nb
set_option Elab.async false
set_option linter.all false
set_option maxRecDepth 100000
set_option maxHeartbeats 1000000
/-! d.clear(), f(..).append(e) -/
namespace Nb
open PySem PySem.Spec PyProof.Rows L2 RZ
def mClr (i : Nat) : MS := fun τ R => match τ[i]? with | some (some (.own (.dct _))) => .nx (τ.set i (some (.own (.dct [])))) R | _ => .stuck
def mAppF (eo : TauS → M Own) (ev : TauS → M D) : MS := fun τ R => match eo τ R with
  | some (.lst ds, R1) => match ev τ R1 with | some (_, R2) => if ds.length ≤ 16000000 then .nx τ R2 else .stuck | none => .stuck
  | _ => .stuck
section
variable {X : Cx} {G : Gx} {o e : Expr} {te to : TE} {ev : TauS → M D} {eo : TauS → M Own} {i : Nat} {pos apos cpos : Pos}
theorem sp_dclear (ho : PE X o (tVar i)) (hb : attributeBase o "clear" X.env (eval o X.env) = eval o X.env := by rfl) (hl : (apos.endLine == cpos.line) = true := by rfl)
    (hs : swapsWith (.Call (.Attribute o "clear" apos) [] [] cpos) none pos.line X.env = pure false := by rfl) : PS X (.Expr (.Call (.Attribute o "clear" apos) [] [] cpos) pos) (tSS G (mClr i)) :=
  PS.mono (ps_expr (pe_dclear ho hb hl) hs) fun D σ H h => by
    obtain ⟨r, H0, F0, F, W, τ, R, x, o, k, q⟩ := h
    unfold mClr at q
    split at q
    · rename_i kvs hi
      obtain ⟨_, hs, p, rfl, hp, ws, h1, h2⟩ := k.at_ i _ hi
      refine ⟨.ref p, hs, .inr (.inr (.inl ⟨rfl, .inl ⟨ws, h1⟩⟩)), p, ws, rfl, rfl, h1, ?_⟩
      obtain ⟨o3, x3, k3, z3⟩ := own_write (ho := .dK []) (ob := .dct []) k o x hs (fun _ _ z => nomatch z) hp ⟨[], upd_same, by simp only [RepK]⟩
      exact q σ _ F _ z3 x3 o3 k3
    · exact q.elim
theorem sp_appF (he0 : PE X o to) (hv0 : EvP G to eo) (he : PE X e te) (hv : EvS G te ev)
    (hbase : attributeBase o "append" X.env (eval o X.env) = eval o X.env := by rfl)
    (hfew : ((backTo cpos (starEach [e] X.env)).all (fun x => !x.1) && (backToKw cpos (keywordEach [] X.env)).all (fun x => x.1.isSome) && decide (([e] : List Expr).length + ([] : List Keyword).length + (if ([] : List Keyword).isEmpty then 0 else 1) < 30)) = true := by rfl)
    (hline : (apos.endLine == cpos.line) = true := by rfl) (hs : starEach [e] X.env = (false, eval e X.env) :: starEach [] X.env := by rfl) (hplain : (backTo cpos (starEach [] X.env)).any (·.1) = false := by rfl)
    (hsw : swapsWith (.Call (.Attribute o "append" apos) [e] [] cpos) none pos.line X.env = pure false := by rfl) : PS X (.Expr (.Call (.Attribute o "append" apos) [e] [] cpos) pos) (tSS G (mAppF eo ev)) :=
  PS.mono (ps_expr (pe_bm PySem.F.plainAttrs_list PySem.F.slot_list_append PySem.F.type_list_append mt_append he0 (pa_cons he pa_nil hs) hbase hfew hline hs hplain) hsw) fun D σ H h => by
    obtain ⟨r, H0, F0, F, W, τ, R, x, o, k, q⟩ := h
    unfold mAppF at q
    split at q
    · rename_i ds R1 e1
      split at q
      · rename_i d R2 e2
        split at q
        · rename_i hl
          refine hv0 r H0 F0 F W τ R _ R1 σ H _ x o k e1 fun p H1 F1 np nF ow o1 x1 => ?_
          obtain ⟨vs, h1, h2⟩ := ow
          refine ⟨.inl ⟨rfl, vs, SqL.of h1⟩, ?_⟩
          obtain ⟨f1, f2, f3⟩ := new_facts x o k np
          refine hv r H0 F0 F1 W τ R1 d R2 σ H1 _ (x.trans o x1) o1 (k.ext o x1) e2 fun v' H2 F2 rv o2 x2 xx2 k2 => ?_
          have h3 : H2 p = some (.lst vs) := xx2.same p _ h1 f1
          refine ⟨p, vs, v', rfl, rfl, h3, by rw [← h2.length]; exact small_line hl, ?_⟩
          have nF2 : ¬ F2 p := fun z => by
            rcases xx2.new p z with z | z
            · exact nF z
            · rw [h1] at z; cases z
          have xa : Ext r F H F2 H2 := x1.trans o1 xx2
          have xb : Ext r F H F2 (upd H2 p (.lst (vs ++ [v']))) := ⟨xa.mono, fun a u h n => by
            rw [upd_ne (fun z => by rw [z, np] at h; cases h)]
            exact xa.same a u h n, xa.new⟩
          exact q σ _ F2 W (xb.st o) (x.trans o xb) (ok_upd o2 nF2 f1) (k.ext o xb)
        · exact q.elim
      · exact q.elim
    · exact q.elim
end
end Nb
set_option Elab.async false
set_option linter.all false
set_option maxRecDepth 100000
set_option maxHeartbeats 1000000
/-! {**a, **b} -/
namespace PySem
section
variable {prog : Program} {w : World} {K : Type} [DecidableEq K] {knd : KeyKind prog w K} {A : Around} {E : Value → Shared → Prop} {s : Shared}
theorem wp_put {d : Addr} {kvs : List (K × Value)} {k : K} {key v : Value} {Q : Unit → Shared → Prop} (hk : knd.is k key = true) (hm : s.heap.DictOf knd d kvs) (hz : kvs.length ≤ sizeLine)
    (hQ : ∀ h', h'.DictOf knd d (stored kvs k v) → Heap.SameBut d s.heap h' → Q () { s with heap := h' }) : wpAny (model prog w) A (dictPut d (knd.hash k) key v) Q E s := by
  obtain ⟨o, es, ep, ho, hc, hd, hks, hp, hn⟩ := hm
  have hl := hp.length
  have hes : es.size ≤ sizeLine := by rw [Array.length_toList] at hl; omega
  have hx : (es.findIdx? fun e => knd.is k e.key) = kvs.findIdx? fun kv => decide (kv.1 = k) := by rw [← hp.findIdx k]; obtain ⟨l⟩ := es; simp
  unfold dictPut
  refine wpAny_bind (wpAny_dictFind_of hk ho hd hks ?_)
  cases hi : es.findIdx? fun e => knd.is k e.key with
  | some i =>
    have ha := any_of_findIdx_some (hx ▸ hi)
    have hl2 : (es.toList.findIdx? fun e => knd.is k e.key) = some i := by rw [← hi]; obtain ⟨l⟩ := es; simp
    have hm2 := hp.modify hn hl2 v
    refine wpAny_updateDict ho hd (hQ _ ⟨_, _, ep, Heap.get?_update_self _ ho (Obj.isFreed_of_dict (Obj.data_mapDict hd _)), hc.mapDict _, Obj.data_mapDict hd _, hks.modify _ _, ?_, ?_⟩ (Heap.SameBut.update ..))
    · rw [stored, if_pos ha]; obtain ⟨l⟩ := es; simpa using hm2
    · rw [stored, if_pos ha, keys_map_store]; exact hn
  | none =>
    have hno : k ∉ kvs.map (·.1) := not_mem_of_findIdx_none (hx ▸ hi)
    have ha : ¬ (kvs.any fun kv => decide (kv.1 = k)) = true := fun z => by
      obtain ⟨kv, h1, h2⟩ := List.any_eq_true.mp z
      exact hno (List.mem_map.mpr ⟨kv, h1, of_decide_eq_true h2⟩)
    have hm2 := hp.append hk (knd.hash k) v
    refine wpAny_updateDictKeys (hz := hes) ho hd (hQ _ ⟨_, _, ep + 1, Heap.get?_update_self _ ho (Obj.isFreed_of_dict (Obj.data_mapDictKeys hd _)), hc.mapDictKeys _, Obj.data_mapDictKeys hd _, hks.push hk _, ?_, ?_⟩ (Heap.SameBut.update ..))
    · rw [stored, if_neg ha]; obtain ⟨l⟩ := es; simpa using hm2
    · rw [stored, if_neg ha, List.map_append, List.nodup_append]
      exact ⟨hn, by simp, fun a h b hb e => by
        simp only [List.map_cons, List.map_nil, List.mem_singleton] at hb
        exact hno (hb ▸ e ▸ h)⟩
theorem wp_merge {d o : Addr} {kvs more : List (K × Value)} {Q : Unit → Shared → Prop} (hdo : d ≠ o) (hoS : (o == sysModules) = false) (hnr : ∀ k (b : Addr), knd.is k (.ref b) = false) (hd : s.heap.DictOf knd d kvs) (ho : s.heap.DictOf knd o more) (hz : kvs.length + more.length ≤ sizeLine)
    (hQ : ∀ h', h'.DictOf knd d (merged kvs more) → h'.DictOf knd o more → Heap.SameBut d s.heap h' → Q () { s with heap := h' }) : wpAny (model prog w) A (mergeMapping d (.ref o) false) Q E s := by
  obtain ⟨oo, eso, epo, hoo, hco, hdo', hko, hpo, hno⟩ := id ho
  obtain ⟨od, esd, epd, hod, hcd, hdd, hkd, hpd, hnd⟩ := id hd
  have hlen : more.length = eso.size := by rw [← hpo.length]; simp
  unfold mergeMapping
  refine wpAny_bind (m := isInstance (.ref o) (.type "dict")) (wpAny_isInstance ho.typeIs isSubtype_dict_dict ?_)
  dsimp only
  rw [if_pos rfl]
  refine wpAny_bind (wpAny_specialOf ho.typeIs F.slot_dict_iter.lookup (wpAny_bind (wpAny_pure ?_)))
  rw [beq_self_eq_true]
  dsimp only
  rw [if_neg (by rw [hoS]; exact Bool.false_ne_true)]
  refine wpAny_bind (wpAny_dictEntries hod hdd ?_)
  have body : ∀ (u : Unit), wpAny (model prog w) A (do
      let l ← dictEntries o
      let ep ← dictEpoch o
      forIn (List.range l.size) PUnit.unit fun i (_ : PUnit) => (do
        let l' ← dictEntries o
        match l'[i]? with
          | some e => do
            holding [e.key, e.val] (dictPut d e.hash e.key e.val)
            let ep' ← dictEpoch o
            if (ep' != ep) = true then (do unsupported "dict.changed-during-merge"; pure (ForInStep.yield PUnit.unit)) else pure (ForInStep.yield PUnit.unit)
          | _ => (do unsupported "dict.changed-during-merge"; pure (ForInStep.yield PUnit.unit)) : Sem (ForInStep PUnit))
      pure ()) Q E s := fun _ => by
    refine wpAny_bind (wpAny_dictEntries hoo hdo' (wpAny_bind (wpAny_dictEpoch hoo hdo' (wpAny_bind ?_))))
    have rg : ∀ {i : Nat} {x : Nat} {rest : List Nat}, x :: rest = List.range' i (eso.size - i) → x = i ∧ i < eso.size ∧ rest = List.range' (i + 1) (eso.size - (i + 1)) := fun {i x rest} h => by
      have lt : i < eso.size := by
        by_cases z : i < eso.size
        · exact z
        · rw [show eso.size - i = 0 by omega] at h; simp at h
      rw [show eso.size - i = eso.size - (i + 1) + 1 by omega, List.range'_succ] at h
      injection h with h1 h2
      exact ⟨h1, lt, h2⟩
    have rg0 : ∀ {i : Nat}, [] = List.range' i (eso.size - i) → eso.size ≤ i := fun {i} h => by
      have := congrArg List.length h
      rw [List.length_range', List.length_nil] at this
      omega
    rw [List.range_eq_range']
    refine wpAny_forIn_list _ (fun rest _ s' => ∃ h' i, s' = { s with heap := h' } ∧ rest = List.range' i (eso.size - i) ∧ i ≤ eso.size ∧ h'.DictOf knd d (merged kvs (more.take i)) ∧ h'.get? o = some oo ∧ Heap.SameBut d s.heap h') _ ?_ ?_ _ _ ⟨s.heap, 0, rfl, by simp, Nat.zero_le _, by simpa [merged] using hd, hoo, Heap.SameBut.refl _ _⟩
    · rintro x rest b s' ⟨h', i, rfl, hr, hi, g1, g2, g3⟩
      obtain ⟨rfl, lt, hr2⟩ := rg hr
      refine wpAny_bind (wpAny_dictEntries g2 hdo' ?_)
      obtain ⟨⟨k, v⟩, hkv⟩ : ∃ kv, more[x]? = some kv := ⟨_, List.getElem?_eq_getElem (show x < more.length by omega)⟩
      have ee : eso[x]? = some (eso[x]'lt) := Array.getElem?_eq_getElem lt
      rw [ee]
      obtain ⟨hkey, hval⟩ := hpo.get? (e := eso[x]) (by simp [lt]) hkv
      obtain ⟨k', hkey', hhash⟩ := hko eso[x] (Array.getElem_mem lt)
      have := knd.inj _ _ _ hkey' hkey
      subst this
      show wpAny _ _ (holding [eso[x].key, eso[x].val] (dictPut d eso[x].hash eso[x].key eso[x].val) >>= _) _ _ _
      rw [hhash, hval]
      have hmx : (merged kvs (more.take x)).length ≤ sizeLine := by
        have e1 := merged_length_le kvs (more.take x)
        rw [List.length_take] at e1
        omega
      refine wpAny_bind (wpAny_holding (wp_put hkey g1 hmx fun h2 q1 q2 => ?_))
      have g4 : h2.get? o = some oo := (q2.2 o (Ne.symm hdo)).trans g2
      refine wpAny_bind (wpAny_dictEpoch g4 hdo' ?_)
      rw [if_neg (by simp)]
      exact wpAny_pure ⟨h2, x + 1, rfl, hr2, lt, by rw [merged_take_succ kvs more x (k', v) hkv]; exact q1, g4, g3.trans q2⟩
    · rintro b s' ⟨h', i, rfl, hr, hi, g1, g2, g3⟩
      have hin : i = eso.size := Nat.le_antisymm hi (rg0 hr)
      rw [hin, ← hlen, List.take_length] at g1
      exact wpAny_pure (hQ h' g1 ⟨oo, eso, epo, g2, hco, hdo', hko, hpo, hno⟩ g3)
  split
  · refine wpAny_bind (wpAny_dictEntries hoo hdo' (wpAny_bind ?_))
    have q : (forIn eso PUnit.unit fun (e : DictEntry) (_ : PUnit) => (match e.key with
        | Value.ref a => do
          let l ← specialOf e.key (Str.ofString "__eq__")
          if (l != some (Value.builtin "object.__eq__")) = true then
            if (Array.filter (fun x => x.hash == e.hash) eso).size > 1 then do
              unsupported "dict.merge-into-an-empty-dict:keys-of-equal-hash"
              pure (ForInStep.yield PUnit.unit)
            else pure (ForInStep.yield PUnit.unit)
          else pure (ForInStep.yield PUnit.unit)
        | _ => pure (ForInStep.yield PUnit.unit) : Sem (ForInStep PUnit))) = pure PUnit.unit := by
      rw [← Array.forIn_toList]
      refine forIn_yield_id _ fun e he c => ?_
      obtain ⟨k, hkey, _⟩ := hko e (Array.mem_toList_iff.mp he)
      cases ek : e.key with
      | ref b => rw [ek, hnr] at hkey; cases hkey
      | _ => rfl
    exact wpAny_of_eq q (body ())
  · exact body ()
end
end PySem
set_option Elab.async false
set_option linter.all false
set_option maxRecDepth 100000
set_option maxHeartbeats 1000000
namespace L2
open PySem PySem.Spec PyProof.Rows
def tMerge2 (ta tb : TE) : TE := fun σ H Q => ∀ d, H d = none → ta σ (upd H d (.dK [])) fun x H1 => ∃ o kvs, x = .ref o ∧ o ≠ d ∧ Rd H1 o (.dK kvs) ∧ H1 d = some (.dK []) ∧
  tb σ (upd H1 d (.dK (mergeK [] kvs))) fun y H2 => ∃ o2 more, y = .ref o2 ∧ o2 ≠ d ∧ Rd H2 o2 (.dK more) ∧ H2 d = some (.dK (mergeK [] kvs)) ∧ (mergeK [] kvs).length + more.length ≤ sizeLine ∧ Q (.ref d) (upd H2 d (.dK (mergeK (mergeK [] kvs) more)))
section
variable {X : Cx} {a b : Expr} {ta tb : TE} {pos : Pos}
theorem mix_noref (k : Key) (c : Addr) : (mixKind X.prog X.w).is k (.ref c) = false := by
  cases z : (mixKind X.prog X.w).is k (.ref c) with
  | false => rfl
  | true =>
    exfalso
    have := relV_key (show keyIs k (.ref c) = true from z)
    cases k <;> simp [kV, RelV] at this
theorem run_merge {A : Around} {E : Value → Shared → Prop} {pins : List (Addr × Obj)} {σ : L2.St} {H : Hp} {s : Shared} {d o : Addr} {kvs more : List (Key × V)} {Q : Unit → Shared → Prop} (I : Inv X pins σ H s) (hd : H d = some (.dK kvs)) (ho : Rd H o (.dK more)) (hne : o ≠ d) (hz : kvs.length + more.length ≤ sizeLine)
    (h : ∀ s', Inv X pins σ (upd H d (.dK (mergeK kvs more))) s' → Q () s') : wpAny (model X.prog X.w) A (mergeMapping d (.ref o) false) Q E s := by
  obtain ⟨z, hsd, vs, rel, dd⟩ := dk_of I.hok hd
  obtain ⟨z2, hso, ws, rel2, dd2⟩ := dk_rd I.hok ho
  refine wp_merge (Ne.symm hne) hso mix_noref dd dd2 (by rw [← rel.length, ← rel2.length]; exact hz) fun h' d1 d2 hs => h _ ?_
  have he : ∃ q, h'.get? d = some q := let ⟨q, _, _, hq, _⟩ := d1; ⟨q, hq⟩
  exact d_write (t' := s.toks) I (by rw [hd]; exact True.intro) hs he (dk_new (Nat.le_trans (length_mergeK more kvs) hz) hsd (KV.merge rel2 rel) d1)
theorem pe_merge2 (ha : PE X a ta) (hb : PE X b tb) : PE X (.Dict [none, none] [a, b] pos) (tMerge2 ta tb) := by
  refine ⟨fun pins s σ H Q I h => ?_⟩
  rw [arm_eval_Dict]
  show wpAny _ _ (do standAt pos; dictDisplay [(none, do let x ← eval a X.env; standAt pos; pure x), (none, do let x ← eval b X.env; standAt pos; pure x)]) _ _ s
  refine wpAny_bind (wpAny_standAt ?_)
  unfold dictDisplay
  simp only [List.forIn_cons, List.forIn_nil, List.isEmpty_nil, if_true, pure_bind]
  have hn : H s.heap.objs.size = none := I.hok.fresh (Nat.le_refl _)
  have I1 : Inv X pins σ (upd H s.heap.objs.size (.dK [])) { s with heap := s.heap.push { cls := .type "dict", data := .dict #[] } } := I.laid (a := s.heap.objs.size) (o := .dK []) (t' := s.toks) (fun _ _ q => Heap.get?_push_of_some _ q) (Nat.le_refl _) (dk_empty s.heap I.big)
  refine wpAny_bind (wpAny_bind (wpAny_bind (wpAny_alloc ?_)))
  refine wpAny_bind (wpAny_holding (wpAny_bind (thn (ha.run pins _ σ _ _ I1 (h _ hn)) fun v s1 ⟨x, H1, J1, r1, o, kvs, ex, ne1, rd1, hd1, h1⟩ => wpAny_bind (wpAny_standAt (wpAny_pure ?_)))))
  subst ex
  obtain rfl : v = Value.ref o := r1
  have z1 : ([] : List (Key × V)).length + kvs.length ≤ sizeLine := by
    obtain ⟨z, _⟩ := dk_rd J1.hok rd1
    rw [List.length_nil]; omega
  refine wpAny_bind (wpAny_onRaise (wpAny_tryCatch (wpAny_onRaise (wpAny_holding (run_merge J1 hd1 rd1 ne1 z1 fun s2 J2 => ?_)))))
  refine wpAny_pure (wpAny_bind (wpAny_bind (wpAny_pure ?_)))
  dsimp only
  refine wpAny_bind (wpAny_holding (wpAny_bind (thn (hb.run pins _ σ _ _ J2 h1) fun v2 s3 ⟨y, H2, J3, r2, o2, more, ey, ne2, rd2, hd2, z2, h2⟩ => wpAny_bind (wpAny_standAt (wpAny_pure ?_)))))
  subst ey
  obtain rfl : v2 = Value.ref o2 := r2
  refine wpAny_bind (wpAny_onRaise (wpAny_tryCatch (wpAny_onRaise (wpAny_holding (run_merge J3 hd2 rd2 ne2 z2 fun s4 J4 => ?_)))))
  have fin : EP X pins σ Q (Value.ref s.heap.objs.size) s4 := ⟨.ref _, _, J4, rfl, h2⟩
  first
    | exact wpAny_pure (wpAny_pure (wpAny_pure (wpAny_bind (wpAny_pure (wpAny_pure fin)))))
    | exact wpAny_pure (wpAny_pure (wpAny_bind (wpAny_pure (wpAny_pure fin))))
    | exact wpAny_pure (wpAny_pure (wpAny_bind (wpAny_bind (wpAny_pure (wpAny_pure (wpAny_pure fin))))))
    | exact wpAny_pure (wpAny_pure (wpAny_bind (wpAny_pure fin)))
    | exact wpAny_pure (wpAny_bind (wpAny_pure (wpAny_pure fin)))
    | exact wpAny_pure (wpAny_pure (wpAny_pure (wpAny_pure fin)))
    | exact wpAny_pure (wpAny_pure (wpAny_pure (wpAny_pure (wpAny_pure fin))))
end
end L2

namespace Nb
open PySem PySem.Spec PyProof.Rows L2 RZ
section
variable {X : Cx} {G : Gx} {a b : Expr} {ma mb : ME} {pos : Pos}
/-- {**a, **b} -/
def mMerge (ma mb : ME) : Tau → M Own := fun τ => do
  let x ← ma τ
  let y ← mb τ
  opt (match x, y with | .dct k1, .dct k2 => if (mergeD [] k1).length + k2.length ≤ 16000000 then some (.dct (mergeD (mergeD [] k1) k2)) else none | _, _ => none)
theorem so_merge (ha : PE X a (tE G ma)) (hb : PE X b (tE G mb)) : PE X (.Dict [none, none] [a, b] pos) (tW G (mMerge ma mb)) :=
  PE.mono (pe_merge2 ha hb) fun σ H Q h => by
    obtain ⟨r, F, τ, R, ob, R', ht, o, e, q⟩ := h
    obtain ⟨x, R1, e1, e2⟩ := M.bind_some e
    obtain ⟨y, R2, e3, e4⟩ := M.bind_some e2
    obtain ⟨e5, rfl⟩ := opt_some e4
    intro d hn
    have a0 := new_own (o := .dK []) o hn
    have rd : r ≠ some d := src_ne o hn
    refine ⟨r, F, τ, R, x, R1, ht.ext o a0.2, a0.1, e1, fun u H1 F1 ru o1 x1 => ?_⟩
    split at e5
    · rename_i k1 k2
      split at e5
      · rename_i hl
        cases e5
        simp only [Rep] at ru
        obtain ⟨oa, ws, rfl, fa, rda, qa⟩ := ru
        have nF : ¬ F d := fun f => by obtain ⟨u, h⟩ := o.fz d f; rw [hn] at h; cases h
        have hd1 : H1 d = some (.dK []) := x1.same d _ upd_same rd
        have nF1 : ¬ F1 d := fun f => by
          rcases x1.new d f with z | z
          · exact nF z
          · rw [upd_same] at z; cases z
        have ne1 : oa ≠ d := fun z => nF1 (by rw [← z]; exact fa)
        have w1 := ok_upd (ho := .dK (mergeK [] ws)) o1 nF1 rd
        have kp1 : ∀ a, F1 a → Kp H1 (upd H1 d (.dK (mergeK [] ws))) a := fun a f => .of fun u h => by rw [upd_ne fun z => nF1 (by rw [← z]; exact f)]; exact h
        have mo1 : ∀ a, F1 a → F1 a := fun _ z => z
        refine ⟨oa, ws, rfl, ne1, rda, hd1, r, F1, τ, R1, .dct k2, R', ?_, w1, e3, fun v H2 F2 rv o2 x2 => ?_⟩
        · have ht1 := (ht.ext o a0.2).ext a0.1 x1
          exact ⟨ht1.1, fun i dd h => let ⟨v, p1, p2⟩ := ht1.2 i dd h; ⟨v, p1, Rep.mono mo1 kp1 _ _ p2⟩⟩
        simp only [Rep] at rv
        obtain ⟨ob, ws2, rfl, fb, rdb, qb⟩ := rv
        have hd2 : H2 d = some (.dK (mergeK [] ws)) := x2.same d _ upd_same rd
        have nF2 : ¬ F2 d := fun f => by
          rcases x2.new d f with z | z
          · exact nF1 z
          · rw [upd_same] at z; cases z
        have ne2 : ob ≠ d := fun z => nF2 (by rw [← z]; exact fb)
        have q1 : RepK G r F1 (upd H1 d (.dK (mergeK [] ws))) (mergeD [] k1) (mergeK [] ws) := RepK.merge (RepK.mono mo1 kp1 _ _ qa) (by simp only [RepK])
        have q2 : RepK G r F2 H2 (mergeD [] k1) (mergeK [] ws) := x2.repK w1 q1
        have kp2 : ∀ a, F2 a → Kp H2 (upd H2 d (.dK (mergeK (mergeK [] ws) ws2))) a := fun a f => .of fun u h => by rw [upd_ne fun z => nF2 (by rw [← z]; exact f)]; exact h
        refine ⟨ob, ws2, rfl, ne2, rdb, hd2, ?_, ?_⟩
        · rw [← q2.length, ← qb.length, sizeLine_eq]
          omega
        · refine q d _ F2 hn nF2 ⟨_, upd_same, RepK.mono (fun _ z => z) kp2 _ _ (RepK.merge qb q2)⟩ (ok_upd o2 nF2 rd) ⟨fun a f => x2.mono a (x1.mono a f), fun a u h nr => ?_, fun a f => ?_⟩
          · have na : a ≠ d := fun z => by rw [z, hn] at h; cases h
            rw [upd_ne na]
            refine x2.same a u ?_ nr
            rw [upd_ne na]
            refine x1.same a u ?_ nr
            rw [upd_ne na]
            exact h
          · rcases x2.new a f with z | z
            · rcases x1.new a z with z | z
              · exact .inl z
              · by_cases na : a = d
                · exact absurd (by rw [← na]; exact f) nF2
                · rw [upd_ne na] at z; exact .inr z
            · by_cases na : a = d
              · exact absurd (by rw [← na]; exact f) nF2
              · rw [upd_ne na] at z
                refine .inr ?_
                cases zz : H a with
                | none => rfl
                | some u =>
                  by_cases nr : r = some a
                  · obtain ⟨u2, h2⟩ := w1.srcIn nr
                    rw [upd_ne na, z] at h2; cases h2
                  · have := x1.same a u (by rw [upd_ne na]; exact zz) nr
                    rw [z] at this; cases this
      · cases e5
    · cases e5
end
end Nb
set_option Elab.async false
set_option linter.all false
set_option maxRecDepth 100000
set_option maxHeartbeats 1000000
/-! instances that hang on no dict that was there before -/
namespace Nb
open PySem PySem.Spec PyProof.Rows L2 RZ
def oldD (H : Hp) : Addr → Prop := fun a => ∃ ws, H a = some (.dK ws)
structure NewF (r : Option Addr) (H0 : Ht) (Hc H : Hp) : Prop where
  dom : ∀ a, H a = none → Hc a = none
  at_ : ∀ p, H0.me = some p → r ≠ some p ∧ ∃ C dx fs, H p = some (.ins C dx fs) ∧ ∀ y ∈ fs, ∃ b, y.2 = V.ref b ∧ Hc b = none
theorem NewF.ext {r : Option Addr} {F F' : Fz} {H0 : Ht} {Hc H H' : Hp} {R : Sr} (h : NewF r H0 Hc H) (o' : Ok1 r F' H' R) (x : Ext r F H F' H') : NewF r H0 Hc H' := ⟨fun a z => h.dom a (none_back o' x z), fun p e => by
  obtain ⟨h1, C, dx, fs, h2, h3⟩ := h.at_ p e
  exact ⟨h1, C, dx, fs, x.same p _ h2 h1, h3⟩⟩
def tSN (G : Gx) (m : MS) : TS := fun D σ H => ∃ r, ∃ H0 : Ht, ∃ Hc F0 F W τ R, Ext r F0 H0 F H ∧ Ok1 r F H R ∧ HoldS G r F H H0 W σ τ ∧ NewF r H0 Hc H ∧ ∃ τ' R', m τ R = .nx τ' R' ∧
  ∀ σ' H' F' W', Ext r F0 H0 F' H' → Ok1 r F' H' R' → HoldS G r F' H' H0 W' σ' τ' → NewF r H0 Hc H' → D.nx σ' H'
section
variable {X : Cx} {G : Gx} {e o : Expr} {te : TE} {ev : TauS → M D} {mw : Tau → M Own} {st : Stmt} {rest : List Stmt} {m1 m2 : MS} {pos pos' : Pos} {c f x : Str} {fl : List Str} {i : Nat}
theorem sN_cons (h1 : PS X st (tSN G m1)) (h2 : PSs X rest (tSN G m2)) : PSs X (st :: rest) (tSN G (mSeq m1 m2)) := PSs.mono (pss_cons h1 h2) fun D σ H h => by
  obtain ⟨r, H0, Hc, F0, F, W, τ, R, x, o, k, n, τ', R', e, q⟩ := h
  unfold mSeq at e
  cases e1 : m1 τ R with
  | nx τ1 R1 =>
    rw [e1] at e
    exact ⟨r, H0, Hc, F0, F, W, τ, R, x, o, k, n, τ1, R1, e1, fun σ' H' F' W' x' o' k' n' => ⟨r, H0, Hc, F0, F', W', τ1, R1, x', o', k', n', τ', R', e, q⟩⟩
  | stuck => rw [e1] at e; cases e
  | rt d R' => rw [e1] at e; cases e
  | ro d R' => rw [e1] at e; cases e
  | bk τ' R' => rw [e1] at e; cases e
  | ct τ' R' => rw [e1] at e; cases e
theorem sN_one (h1 : PS X st (tSN G m1)) : PSs X [st] (tSN G m1) := pss_one h1
theorem sN_set (he : PE X e te) (hv : EvS G te ev) (hN : X.N.Nodup) (hi : X.N[i]? = some x) (hx : Loc X.env.scope x) (hs : swapsWith e (some (.Name x pos')) pos.line X.env = pure false := by rfl)
    (hf : X.fn x = true ∨ X.env.scope.names.lookup x = some .local := by first | exact .inl rfl | exact .inr rfl | assumption) : PS X (.Assign [.Name x pos'] e pos) (tSN G (mSet (gN i) ev)) :=
  PS.mono (ps_set hN hi hx he hs hf) fun D σ H h => by
    obtain ⟨r, H0, Hc, F0, F, W, τ, R, x, o, k, n, τ', R', e, q⟩ := h
    unfold mSet at e
    cases e1 : ev τ R with
    | none => rw [e1] at e; cases e
    | some p =>
      rw [e1] at e
      dsimp only [gN, setAllD, List.foldl_cons, List.foldl_nil] at e
      cases e
      exact hv r H0 F0 F W τ R p.1 p.2 σ H _ x o k e1 fun v H' F' rv o' x' xx k' => q _ H' F' W x' o' (k'.set i rv) (n.ext o' xx)
theorem sN_fld (hK : X.K = G.K) (T : ClsOk G.K G c) (hG : G.fl c = fl) (hl : fl.length < 1000) (ho : PE X o (tVar i)) (he : PE X e (tW G mw)) (hs : swapsWith e (some (.Attribute o f pos')) pos.line X.env = pure false := by rfl) :
    PS X (.Assign [.Attribute o f pos'] e pos) (tSN G (mSetF c fl i f (evA (mFz mw)))) := PS.mono (ps_fld ho he hs) fun D σ H h => by
  obtain ⟨r, H0, Hc, F0, F, W, τ, R, x, o, k, n, τ', R', e, q⟩ := h
  unfold mSetF at e
  cases e1 : evA (mFz mw) τ R with
  | none => rw [e1] at e; cases e
  | some y =>
    rw [e1] at e
    dsimp only at e
    split at e
    · rename_i c' fs hi
      split at e
      · rename_i hc
        obtain ⟨rfl, hf⟩ := hc
        cases e
        obtain ⟨ob, R1, e2, e3⟩ := M.bind_some (show (mw (viewA τ) >>= fun ob => opt (ownD ob)) R = some (y.1, y.2) from e1)
        obtain ⟨e4, e5⟩ := opt_some e3
        have e6 : mw (viewA τ) R = some (ob, y.2) := by rw [e5]; exact e2
        refine ⟨r, F, viewA τ, R, ob, y.2, k.viewA, o, e6, fun b H1 F1 np nF ow o1 xx => ?_⟩
        obtain ⟨rv, o1'⟩ := frz_top o1 (src_ne o np) ow e4
        have xf := frz_ext np xx
        have k1 := k.ext o xf
        have x1 := x.trans o xf
        have n1 := n.ext o1' xf
        obtain ⟨_, hs, p, rfl, hp, dx, vs, a1, a2, a3, a4, a5, a6⟩ := k1.at_ i _ hi
        obtain ⟨p', s1, s2⟩ := k1.me i _ _ hi
        rw [hs] at s1
        cases s1
        have hf' : (G.fl c')[vs.length]? = some f := by rw [hG, ← a5.length]; exact hf
        have hlt : vs.length < (G.fl c').length := (List.getElem?_eq_some_iff.mp hf').1
        refine ⟨.ref p, hs, p, _, dx, _, rfl, a3, by rw [hK]; exact T.cl, by rw [hK]; exact T.na f (List.mem_of_getElem? hf'), ?_, ?_⟩
        · rw [List.length_zip, hG]; exact Nat.lt_of_le_of_lt (Nat.min_le_left _ _) hl
        · rw [putF_zip T.nd hf']
          obtain ⟨o2, x2, k2, z2⟩ := own_write (ho := .ins (G.ca c') dx ((G.fl c').zip (vs ++ [.ref b]))) (ob := .obj c' (fs ++ [y.1])) k1 o1' x1 hs (fun _ _ _ => s2) hp
            ⟨dx, vs ++ [.ref b], a1, a2, upd_same, by rw [upd_ne a2]; exact a4, (repL_write k1 hp a5).append (RepL.one (rep_write k1 hp rv)), by rw [List.length_append, a5.length]; exact hlt⟩
          refine q σ _ _ _ x2 o2 k2 ⟨fun a z => ?_, fun p2 h2 => ?_⟩
          · by_cases na : a = p
            · rw [na, upd_same] at z; cases z
            · rw [upd_ne na] at z; exact n1.dom a z
          · rw [s2] at h2
            cases h2
            obtain ⟨m1, C, dx', fs', m2, m3⟩ := n1.at_ p s2
            refine ⟨m1, _, dx, _, upd_same, fun y hy => ?_⟩
            rw [a3] at m2
            cases m2
            have hy2 : y.2 ∈ vs ++ [V.ref b] := by
              have := List.mem_map_of_mem (f := Prod.snd) hy
              rw [List.map_snd_zip (by rw [List.length_append]; exact hlt)] at this
              exact this
            rcases List.mem_append.mp hy2 with h | h
            · have hm : y.2 ∈ (((G.fl c').zip vs).map Prod.snd) := by rw [List.map_snd_zip (Nat.le_of_lt hlt)]; exact h
              obtain ⟨z, hz, ez⟩ := List.mem_map.mp hm
              rw [← ez]
              exact m3 z hz
            · exact ⟨b, List.mem_singleton.mp h, n.dom b np⟩
      · cases e
    · cases e
end
end Nb
set_option Elab.async false
set_option linter.all false
set_option maxRecDepth 100000
set_option maxHeartbeats 1000000
namespace Nb
open PySem PySem.Spec PyProof.Rows L2 RZ
def spIN (G : Gx) (c : Str) (n : Nat) (mi : List D → M (List D)) : Sp := fun vs H Q _ => ∃ r F x dx us ds R fs R', vs = .ref x :: us ∧ RepL G r F H ds us ∧ ds.length = n ∧ Ok1 r F H R ∧ ¬ F x ∧ ¬ F dx ∧ r ≠ some x ∧ r ≠ some dx ∧ dx ≠ x ∧
  H x = some (.ins (G.ca c) dx []) ∧ H dx = some (.own x) ∧ mi ds R = some (fs, R') ∧
  ∀ H' F' ws dx', RepL G r F' H' fs ws → (∀ v ∈ ws, ∃ b, v = V.ref b ∧ H b = none) → Ok1 r F' H' R' → ExtX r x dx F H F' H' → H' x = some (.ins (G.ca c) dx' ((G.fl c).zip ws)) → (G.fl c).length = ws.length → ¬ F' x → ¬ F' dx' → (dx' = dx ∨ H dx' = none) → (∃ u, H' dx' = some u) → Q .non H'
structure MakOkN (P : Program) (w : World) (K : PySem.W.Frag) (mg : Str → Option Value) (base : Heap) (G : Gx) (k : Nat) (c : Str) (n : Nat) (mi : List D → M (List D)) : Prop where
  ex : ∃ f fd ps, FnOk P w K mg base CX0 k f fd ps (spIN G c n mi) ∧ mg c = some (.ref (G.ca c)) ∧ Mk K (G.ca c) f ∧ Binds K fd ps []
section
variable {P : Program} {w : World} {K : PySem.W.Frag} {mg : Str → Option Value} {base : Heap} {G : Gx} {x qual c m : Str} {st : Stmt} {f : Addr} {fd : FuncData} {N ps : List Str} {k n nf : Nat} {mb : MS}
def BodyOkN (P : Program) (w : World) (K : PySem.W.Frag) (mg : Str → Option Value) (base : Heap) (G : Gx) (qual : Str) (st : Stmt) (f : Addr) (N : List Str) (k : Nat) (mb : MS) : Prop :=
  ∀ (cdv : Value) (A : Around) (outer : List Env) (s : Shared) (H : Hp) (E : XK), Room k (A.deeper (envOfC qual (defScope st) s.heap.objs.size f cdv)) → PSs (cxOf CX0 P w K mg base N qual (defScope st) f cdv A outer s H E).nox (defBody st) (tSN G mb)
theorem fn_initN (Fn : FunG K x qual st f fd) (S : FnScope N ps (defScope st)) (hn : ps.length = n + 1) (hN : 1 ≤ N.length) (hnf : (G.fl c).length = nf) (body : BodyOkN P w K mg base G qual st f N k mb) : FnOk P w K mg base CX0 (k + 1) f fd ps (spIN G c n (mInit c nf N.length mb)) := by
  refine Fn.ok S (fun vs H Q E h => ?_) (fun cdv A outer s H vs Q E hr h => ⟨_, body cdv A outer s H E hr, ?_⟩)
  · obtain ⟨r, F, x, dx, us, ds, R, fs, R', rfl, ru, hl, _⟩ := h
    rw [List.length_cons, ← ru.length, hl, hn]
  · obtain ⟨r, F, x, dx, us, ds, R, fs, R', rfl, ru, hl, o, nFx, nFd, rx, rd, ne, hx, hd, e, q⟩ := h
    have H0e : Ext r F (fun a => if a = x ∨ a = dx then none else H a) F H := ⟨fun _ z => z, fun a u z n => by
      split at z
      · cases z
      · exact z, fun _ z => .inl z⟩
    unfold mInit at e
    split at e
    · rename_i τ' R1 e1
      refine ⟨r, ⟨fun a => if a = x ∨ a = dx then none else H a, some x⟩, H, F, F, fun i a => i = 0 ∧ (a = x ∨ a = dx), some (.own (.obj c [])) :: startD (N.length - 1) ds, R, H0e, o, ⟨?_, fun i s hs => ?_, fun i a h => ?_, fun i j a h1 h2 => by rw [h1.1, h2.1], fun i c' ds' hs => ?_⟩, ⟨fun _ z => z, fun p hp => ?_⟩, τ', R1, e1, ?_⟩
      · have := ru.length
        unfold L2.start startD
        simp only [List.length_append, List.length_map, List.length_replicate, List.length_cons]
        omega
      · cases i with
        | zero =>
          cases hs
          refine ⟨.ref x, rfl, x, rfl, ⟨rfl, .inl rfl⟩, dx, [], ⟨rfl, .inr rfl⟩, ne, ?_, hd, by simp only [RepL], Nat.zero_le _⟩
          rw [hx, List.zip_nil_right]
        | succ i =>
          obtain ⟨d, h, rfl⟩ := startD_get (show (startD (N.length - 1) ds)[i]? = some (some s) from hs)
          obtain ⟨v, h1, h2⟩ := ru.get h
          exact ⟨v, start_get (vs := .ref x :: us) (by simpa using h1), h2⟩
      · obtain ⟨rfl, h⟩ := h
        rcases h with rfl | rfl
        · exact ⟨nFx, rx, by simp, _, hx⟩
        · exact ⟨nFd, rd, by simp, _, hd⟩
      · cases i with
        | zero => exact ⟨x, rfl, rfl⟩
        | succ i =>
          obtain ⟨d, h, z⟩ := startD_get (show (startD (N.length - 1) ds)[i]? = some (some (.own (.obj c' ds'))) from hs)
          cases z
      · cases hp
        exact ⟨rx, _, dx, [], hx, fun y hy => nomatch hy⟩
      · split at e
        · rename_i c' fs' e2
          split at e
          · rename_i hc
            obtain ⟨rfl, hfs⟩ := hc
            cases e
            intro σ' H' F' W' x' o' k' n'
            obtain ⟨v, hs, p, rfl, hp, dx', vs, a1, a2, a3, a4, a5, a6⟩ := k'.at_ 0 _ e2
            obtain ⟨p', hs', hm⟩ := k'.me 0 _ _ e2
            rw [hs] at hs'
            cases hs'
            cases hm
            obtain ⟨t1, t2, t3, t4⟩ := k'.sep 0 _ a1
            have hlen : (G.fl c').length = vs.length := by rw [← a5.length, hfs, hnf]
            refine q H' F' vs dx' a5 (fun v hv => ?_) o' ⟨x'.mono, fun b u hb nb nb' nr => x'.same b u (by show (if _ then _ else _) = _; rw [if_neg fun z => z.elim nb nb']; exact hb) nr, fun b fb => ?_⟩ a3 hlen (k'.sep 0 _ hp).1 t1 ?_ t4
            · obtain ⟨_, C, dy, gs, g1, g2⟩ := n'.at_ x rfl
              rw [a3] at g1
              cases g1
              have hm : v ∈ (((G.fl c').zip vs).map Prod.snd) := by rw [List.map_snd_zip (by omega)]; exact hv
              obtain ⟨z, hz, ez⟩ := List.mem_map.mp hm
              rw [← ez]
              exact g2 z hz
            · rcases x'.new b fb with h | h
              · exact .inl h
              · have h : (if b = x ∨ b = dx then none else H b) = none := h
                by_cases z : b = x ∨ b = dx
                · exact .inr (.inr z)
                · rw [if_neg z] at h; exact .inr (.inl h)
            · have h : (if dx' = x ∨ dx' = dx then none else H dx') = none := t3
              by_cases z : dx' = x ∨ dx' = dx
              · rcases z with z | z
                · exact absurd z a2
                · exact .inl z
              · rw [if_neg z] at h; exact .inr h
          · cases e
        · cases e
    · cases e
theorem mak_okN (Fn : FunG K x qual st f fd) (S : FnScope N ps (defScope st)) (hm : mg c = some (.ref (G.ca c))) (hM : Mk K (G.ca c) f) (hb : Binds K fd ps []) (hn : ps.length = n + 1) (hN : 1 ≤ N.length) (hnf : (G.fl c).length = nf) (body : BodyOkN P w K mg base G qual st f N k mb) :
    MakOkN P w K mg base G (k + 1) c n (mInit c nf N.length mb) := ⟨f, fd, ps, fn_initN Fn S hn hN hnf body, hm, hM, hb⟩
end
/-! making one while own dicts are seen -/
def newDc : D → Bool | .dct kvs => kvs.all fun kv => noDct kv.2 | _ => false
def tMN (G : Gx) (m : ME) : TE := fun σ H Q => ∃ r F τ R d R', HoldT G r F H σ τ ∧ Ok1 r F H R ∧ m τ R = some (d, R') ∧ ∀ v H' F', Rep G r (fun a => F' a ∧ ¬ oldD H a) H' d v → Ok1 r F' H' R' → Ext r F H F' H' → Q v H'
def mMakeN (c : Str) (n : Nat) (mi : List D → M (List D)) (ms : Tau → M (List D)) : ME := fun τ => do let xs ← ms τ; let fs ← (if xs.length = n then mi xs else opt none); opt (if fs.all newDc then some (.ins c fs) else none)
def evN (m : ME) : TauS → M D := fun τ => m (viewD τ)
section
variable {G : Gx} {r : Option Addr} {F F' : Fz} {H H' : Hp} {R : Sr}
theorem repK_out {P : Addr → Prop} (hP : ∀ a, P a → ∃ ws, H a = some (.dK ws)) : ∀ (kvs : List (Key × D)) (ws : List (Key × V)), (kvs.all fun kv => noDct kv.2) = true → RepK G r F H kvs ws → RepK G r (fun a => F a ∧ ¬ P a) H kvs ws
  | [], ws, _, h => by simpa only [RepK] using h
  | (k, d) :: kvs, ws, n, h => by
    rw [List.all_cons, Bool.and_eq_true] at n
    simp only [RepK] at h ⊢
    obtain ⟨w, ws, rfl, a, b⟩ := h
    exact ⟨w, ws, rfl, rep_out hP d w n.1 a, repK_out hP kvs ws n.2 b⟩
theorem rep_newDc {P : Addr → Prop} (hP : ∀ a, P a → ∃ ws, H a = some (.dK ws)) {d : D} {b : Addr} (n : newDc d = true) (nb : ¬ P b) (h : Rep G r F H d (.ref b)) : Rep G r (fun a => F a ∧ ¬ P a) H d (.ref b) := by
  cases d with
  | dct kvs =>
    simp only [Rep] at h ⊢
    obtain ⟨a, ws, e, f, l, q⟩ := h
    cases e
    exact ⟨b, ws, rfl, ⟨f, nb⟩, l, repK_out hP _ _ n q⟩
  | _ => cases n
theorem repL_newDc {P : Addr → Prop} (hP : ∀ a, P a → ∃ ws, H a = some (.dK ws)) : ∀ {ds : List D} {vs : List V}, ds.all newDc = true → (∀ v ∈ vs, ∃ b, v = V.ref b ∧ ¬ P b) → RepL G r F H ds vs → RepL G r (fun a => F a ∧ ¬ P a) H ds vs
  | [], vs, _, _, h => by simpa only [RepL] using h
  | d :: ds, vs, n, nv, h => by
    rw [List.all_cons, Bool.and_eq_true] at n
    simp only [RepL] at h ⊢
    obtain ⟨w, ws, rfl, a, b⟩ := h
    obtain ⟨b', rfl, nb⟩ := nv w List.mem_cons_self
    exact ⟨_, ws, rfl, rep_newDc hP n.1 nb a, repL_newDc hP n.2 (fun v hv => nv v (List.mem_cons_of_mem _ hv)) b⟩
theorem evN_ok {m : ME} : EvS G (tMN G m) (evN m) := fun r H0 F0 F W τ R d R' σ H Q x o h e q => by
  refine ⟨r, _, Nb.viewD τ, R, d, _, h.viewD, h.okD o, e, fun v H' F' rv o' x' => ?_⟩
  obtain ⟨o2, x2⟩ := backD h o o' x'
  refine q v H' _ (Rep.mono (fun a ⟨f, n⟩ => ⟨f, fun pd => n ?_⟩) (fun _ _ => .of fun _ z => z) d v rv) o2 (x.trans o x2) x2 (h.ext o x2)
  obtain ⟨i, kvs, t1, t2, w⟩ := pd
  obtain ⟨u, s1, p, e0, hp, ws, b1, b2⟩ := h.at_ i _ t1
  rw [t2] at s1
  cases s1
  cases e0
  exact ⟨ws, b1⟩
variable {X : Cx} {e : Expr} {es : List Expr} {ms : Tau → M (List D)} {p pos : Pos}
theorem se_makeN {k n : Nat} {c : Str} {mi : List D → M (List D)} (U : MakOkN X.prog X.w X.K X.mg X.base G k c n mi) (hr : Room (k + 1) X.A) (ha : PA X (e :: es) (tA G ms)) (hx : Passes CX0 X E0) (hg : Gl X c := by rfl)
    (hdb : (c == ("__debug__" : Str)) = false := by decide) (hs : starEach (e :: es) X.env = (false, eval e X.env) :: starEach es X.env := by rfl) (hpl : (backTo pos (starEach es X.env)).any (·.1) = false := by rfl) :
    PE X (.Call (.Name c p) (e :: es) [] pos) (tMN G (mMakeN c n mi ms)) := by
  obtain ⟨f, fd, ps, h1, h2, h3, h4⟩ := U.ex
  refine PE.mono (pe_make h3 h1 hr hg h2 h4 .nil hx ha hdb hs hpl) fun σ H Q h => ?_
  obtain ⟨r, F, τ, R, d, R', ht, ho, e, q⟩ := h
  obtain ⟨xs, R1, e1, e2⟩ := M.bind_some e
  obtain ⟨fs, Rb, e3, e4⟩ := M.bind_some e2
  obtain ⟨e5, rfl⟩ := opt_some e4
  split at e5
  · rename_i hfs
    cases e5
    split at e3
    · rename_i hn
      refine ⟨r, F, τ, R, xs, R1, ht, ho, e1, fun us H1 F1 ru o x1 x dx nx nd ne => ?_⟩
      have a1 := new_own (o := .own x) o nd
      have nx1 : upd H1 dx (.own x) x = none := by rw [upd_ne (Ne.symm ne)]; exact nx
      have a2 := new_own (o := .ins (G.ca c) dx []) a1.1 nx1
      have hF : ∀ a, F1 a → H1 a ≠ none := fun a h z => by obtain ⟨u, h⟩ := o.fz a h; rw [z] at h; cases h
      have rne : ∀ a, H1 a = none → r ≠ some a := fun a h z => by obtain ⟨u, h'⟩ := o.srcIn z; rw [h] at h'; cases h'
      refine ⟨r, F1, x, dx, us, xs, R1, fs, _, by rw [List.append_nil], (a1.2.trans a1.1 a2.2).repL o ru, hn, a2.1, fun h => hF x h nx, fun h => hF dx h nd, rne x nx, rne dx nd, ne, upd_same, by rw [upd_ne ne]; exact upd_same, e3, ?_⟩
      intro H' F' ws dx' rw' nws o' xx hx hl nfx nfd hdx hdu
      have nd' : H1 dx' = none := by
        rcases hdx with rfl | h
        · exact nd
        · by_cases z1 : dx' = x
          · rw [z1]; exact nx
          · by_cases z2 : dx' = dx
            · rw [z2]; exact nd
            · rw [upd_ne z1, upd_ne z2] at h; exact h
      have xt : Ext r F1 H1 (fun a => F' a ∨ a = x ∨ a = dx') H' := by
        refine ⟨fun a h => .inl (xx.mono a h), fun a u h nr => ?_, fun a h => ?_⟩
        · have n1 : a ≠ x := ne_of_none h nx
          have n2 : a ≠ dx := ne_of_none h nd
          exact xx.same a u (by rw [upd_ne n1, upd_ne n2]; exact h) n1 n2 nr
        · rcases h with h | h | h
          · rcases xx.new a h with h' | h' | h' | h'
            · exact .inl h'
            · refine .inr ?_
              by_cases z1 : a = x
              · rw [z1]; exact nx
              · by_cases z2 : a = dx
                · rw [z2]; exact nd
                · rw [upd_ne z1, upd_ne z2] at h'; exact h'
            · exact .inr (by rw [h']; exact nx)
            · exact .inr (by rw [h']; exact nd)
          · exact .inr (by rw [h]; exact nx)
          · exact .inr (by rw [h]; exact nd')
      have xa := x1.trans o xt
      have no : ∀ a, H1 a = none → ¬ oldD H a := fun a h ⟨vs, z⟩ => by
        have := none_back o x1 h
        rw [this] at z; cases z
      have hP : ∀ a, oldD H a → ∃ ws, H' a = some (.dK ws) := fun a ⟨vs, z⟩ => ⟨vs, xa.same a _ z fun h => by
        have s := ho.sr
        cases R with
        | none => rw [show r = none from s] at h; cases h
        | some ns =>
          obtain ⟨b, g1, g2, _⟩ := s
          rw [g1] at h
          cases h
          rw [z] at g2; cases g2⟩
      refine ⟨rfl, q (.ref x) H' (fun a => F' a ∨ a = x ∨ a = dx') ?_ ⟨fun a h => ?_, ?_⟩ xa⟩
      · simp only [Rep]
        refine ⟨x, dx', ws, rfl, ⟨.inr (.inl rfl), no x nx⟩, ⟨.inr (.inr rfl), no dx' nd'⟩, hx, hl, ?_⟩
        refine repL_newDc (F := fun a => F' a ∨ a = x ∨ a = dx') hP hfs (fun v hv => ?_) (RepL.mono (fun a h => .inl h) (fun a _ => .of fun _ z => z) fs ws rw')
        obtain ⟨b, rfl, hb⟩ := nws v hv
        refine ⟨b, rfl, no b ?_⟩
        by_cases z1 : b = x
        · rw [z1]; exact nx
        · by_cases z2 : b = dx
          · rw [z2]; exact nd
          · rw [upd_ne z1, upd_ne z2] at hb; exact hb
      · rcases h with h | h | h
        · exact o'.fz a h
        · exact ⟨_, by rw [h]; exact hx⟩
        · rw [h]; exact hdu
      · have s := o'.sr
        rename_i R'
        cases R' with
        | none => exact s
        | some ns =>
          obtain ⟨b, e1, e2, e3⟩ := s
          refine ⟨b, e1, e2, fun h => ?_⟩
          rcases h with h | h | h
          · exact e3 h
          · rw [h] at e1; exact rne x nx e1
          · rw [h] at e1; exact rne dx' nd' e1
    · cases (opt_some e3).1
  · cases e5
end
end Nb
set_option Elab.async false
set_option linter.all false
set_option maxRecDepth 100000
set_option maxHeartbeats 1000000
namespace Nb
open PySem PySem.Spec PyProof.Rows L2 RZ
/-! what the operators of an own class ask, by one look -/
def opsB (K : PySem.W.Frag) (C : Addr) : Bool := (PySem.W.mroIn K C (.type "object") == some true) && ((PySem.W.findIn K (.ref C) "__ne__" == some (some (.builtin "object.__ne__"))) && (PySem.W.selfFirst K C &&
  ((["NoneType", "bool", "int", "str", "list", "tuple", "dict"].all fun T => PySem.W.kitOne K (.type T) (.ref C) == some false) && (PySem.W.kitOne K (.ref C) (.type "str") == some false))))
theorem opsB_ok {K : PySem.W.Frag} {C : Addr} (b : opsB K C = true) : NeOk K C ∧ PySem.W.selfFirst K C = true ∧ InsF K C ∧ PySem.W.kitOne K (.ref C) (.type "str") = some false := by
  unfold opsB at b
  rw [Bool.and_eq_true, Bool.and_eq_true, Bool.and_eq_true, Bool.and_eq_true] at b
  obtain ⟨b1, b2, b3, b4, b5⟩ := b
  exact ⟨⟨beq_iff_eq.mp b1, beq_iff_eq.mp b2⟩, b3, fun T hT => beq_iff_eq.mp (List.all_eq_true.mp b4 T hT), beq_iff_eq.mp b5⟩
def isCTD (c : Str) : List D → Option D | [x, .ty "str"] => if insOf c x = true then some (.bl false) else none | _ => none
section
variable {X : Cx} {G : Gx} {c : Str} {e : Expr} {es : List Expr} {ms : Tau → M (List D)} {p pos : Pos}
theorem call_isCT {C : Addr} (c : C8.InsC X.K C) (hk : PySem.W.kitOne X.K (.ref C) (.type "str") = some false) : CallR X (.builtin "isinstance") (fun xs H Q => ∃ a dx fs, xs = [.ref a, .ty "str"] ∧ H a = some (.ins C dx fs) ∧ Q (.bl false) H) := by
  intro pins s σ H xs us Q I r h
  obtain ⟨a, dx, fs, rfl, ha, q⟩ := h
  obtain ⟨u, w', rfl, ru, rw'⟩ := vals2 r
  cases rw'
  exact isinst_ok I ru (TyOf.ins ha c.cl c.ha c.hn c.htk c.hm) hk fun tk => ⟨.bl false, H, I.tok _, rfl, q⟩
theorem d_isCT : CallD G (fun xs H Q => ∃ a dx fs, xs = [.ref a, .ty "str"] ∧ H a = some (.ins (G.ca c) dx fs) ∧ Q (.bl false) H) (isCTD c) := by
  intro r F H R xs us d Q o ru e q
  unfold isCTD at e
  split at e
  · rename_i x
    split at e
    · rename_i hi
      cases e
      obtain ⟨u, v, rfl, r1, r2⟩ := ru.pair
      simp only [Rep] at r2
      subst r2
      obtain ⟨n, dx, vs, rfl, l⟩ := insOf_rep hi r1
      exact ⟨n, dx, _, rfl, l, q _ H F (by simp only [Rep]) o .refl⟩
    · cases e
  · cases e
def isiC (c : Str) : List D → Option D := fun xs => (isiD xs).or (isCTD c xs)
theorem se_isiC (hK : X.K = G.K) (I : C8.InsC X.K (G.ca c)) (hk : PySem.W.kitOne X.K (.ref (G.ca c)) (.type "str") = some false) (hm : X.mg "isinstance" = none) (ha : PA X [e, b] (tA G ms)) (hg : Gl X "isinstance" := by rfl)
    (hs : starEach [e, b] X.env = (false, eval e X.env) :: starEach [b] X.env := by rfl) (hpl : (backTo pos (starEach [b] X.env)).any (·.1) = false := by rfl) : PE X (.Call (.Name "isinstance" p) [e, b] [] pos) (tE G (mFun (isiC c) ms)) := by
  have h : CallR X (.builtin "isinstance") (fun xs H Q => (rIsi G.K xs H Q ∨ rIsiT G.K xs H Q ∨ rIsiK G.K xs H Q) ∨ ∃ a dx fs, xs = [.ref a, .ty "str"] ∧ H a = some (.ins (G.ca c) dx fs) ∧ Q (.bl false) H) := by
    rw [← hK]
    exact CallR.or (call_isi.or (call_isiT.or call_isiK)) (call_isCT I hk)
  exact se_callB h (CallD.or d_isi d_isCT) hg hm (by decide +kernel) ha (by decide) (by decide) hs hpl
theorem told_fldK {K : PySem.W.Frag} {te : TE} {ma : ME} {f : Str} {i : Nat} (hK : K = G.K) (T : ClsOk G.K G c) (hi : (G.fl c)[i]? = some f) (h : Told G te ma) : Told G (tFld K te f) (mFun1 (fldD c i) ma) := by
  rw [hK]
  exact told_fld T hi h
def mOwnNeT (c : Str) (mf : List D → M D) (ma mb : ME) : Tau → M Bool := fun τ => do let x ← ma τ; let y ← mb τ; if insOf c x = true ∧ tyD c y = true then (do let d ← mf [x, y]; opt (match d with | .bl b => some (!b) | _ => none)) else opt none
theorem st_neI {k : Nat} {mf : List D → M D} {a b : Expr} {ma mb : ME} (U : MetOk X.prog X.w X.K X.mg X.base G k c "__eq__" 2 [] mf) (hn : NeOk X.K (G.ca c)) (hr : Room (k + 1) X.A) (hK : X.K = G.K) (ha : PE X a (tE G ma)) (hb : PE X b (tE G mb)) (hx : Passes CX0 X E0) (hm : behindInMarks .NotEq b = false := by rfl) :
    PT X (.Compare a [.NotEq] [b] pos) (tT G (mOwnNeT c mf ma mb)) := by
  obtain ⟨f, fd, ps, h1, h2, h3⟩ := met_dvs U
  refine PT.mono (pt_cmpR (op_neI h1 hr hn h2 h3 .nil hx) ha hb hm) fun σ H Q h => ?_
  obtain ⟨r, F, τ, R, d, R', ht, o, e, q⟩ := h
  obtain ⟨x, R1, e1, e2⟩ := M.bind_some e
  obtain ⟨y, R2, e3, e4⟩ := M.bind_some e2
  refine ⟨r, F, τ, R, x, R1, ht, o, e1, fun u H1 F1 ru o1 x1 => ⟨r, F1, τ, R1, y, R2, ht.ext o x1, o1, e3, fun v H2 F2 rv o2 x2 => ?_⟩⟩
  split at e4
  · rename_i hc
    obtain ⟨d0, R0, e5, e6⟩ := M.bind_some e4
    obtain ⟨e7, rfl⟩ := opt_some e6
    have ru2 := x2.rep o1 ru
    obtain ⟨n, dx, vs, rfl, l⟩ := insOf_rep hc.1 ru2
    refine ⟨n, dx, _, rfl, l, tyD_rep hK rv hc.2, r, F2, [x, y], R2, d0, _, ?_, o2, rfl, e5, fun w H' F' rw o' x' => ?_⟩
    · simp only [List.append_nil, RepL]
      exact ⟨_, _, rfl, ru2, v, [], rfl, rv, rfl⟩
    · split at e7
      · cases e7
        simp only [Rep] at rw
        exact ⟨_, rw, _, rfl, q H' F' o' ((x1.trans o1 x2).trans o2 x')⟩
      · cases e7
  · cases (opt_some e4).1
end
end Nb
set_option Elab.async false
set_option linter.all false
set_option maxRecDepth 100000
namespace K2
open PySem PySem.Spec PyProof.Rows L2 Nb RZ
def topS (i : Nat) : Stmt := PySem.Challenge.pw_noteshold_k02_trees_told.main.body.getD i (.Pass ⟨0, 0, 0, 0⟩)
structure Tx (K : PySem.W.Frag) (mg : Str → Option Value) (G : Gx) : Prop where
  hK : K = G.K
  z_bool : mg "bool" = none
  z_list : mg "list" = none
  z_tuple : mg "tuple" = none
  z_str : mg "str" = none
  z_int : mg "int" = none
  z_dict : mg "dict" = none
  z_len : mg "len" = none
  z_isinstance : mg "isinstance" = none
  z_all : mg "all" = none
  z_any : mg "any" = none
  z_min : mg "min" = none
  z_sorted : mg "sorted" = none
  z_range : mg "range" = none
  z_enumerate : mg "enumerate" = none
  z_zip : mg "zip" = none
  z_set : mg "set" = none
  g_Tree : mg "Tree" = some (.ref (G.ca "Tree"))
  k_Tree : ClsOk K G "Tree"
  i_Tree : C8.InsC K (G.ca "Tree")
  n_Tree : NeOk K (G.ca "Tree")
  o_Tree : PySem.W.selfFirst K (G.ca "Tree") = true
  j_Tree : InsF K (G.ca "Tree")
  s_Tree : PySem.W.kitOne K (.ref (G.ca "Tree")) (.type "str") = some false
  kg_Tree : ClsOk G.K G "Tree"
  fl_Tree : G.fl ("Tree" : Str) = (["_files", "_folders"] : List Str)
  f_Tree_0 : (G.fl ("Tree" : Str))[(0 : Nat)]? = some ("_files" : Str)
  f_Tree_1 : (G.fl ("Tree" : Str))[(1 : Nat)]? = some ("_folders" : Str)
  c_LONGEST_NAME : GInt mg "LONGEST_NAME" 8
end K2
set_option Elab.async false
set_option linter.all false
set_option maxRecDepth 100000
set_option maxHeartbeats 4000000
namespace K2
open PySem PySem.Spec PyProof.Rows L2 Nb RZ
def loose : List Str := [("_wall" : Str), ("NoteError" : Str), ("BadPath" : Str), ("Blocked" : Str), ("LONGEST_NAME" : Str), ("is_path" : Str), ("is_path_text" : Str), ("is_beneath" : Str), ("is_kin" : Str), ("first_of" : Str), ("Tree" : Str), ("checked_files" : Str), ("folders_above" : Str), ("folders_of" : Str), ("_law_source" : Str), ("_law_draw" : Str), ("_law_pick" : Str), ("_law_same" : Str), ("_law_is_beneath" : Str), ("_law_has_room" : Str), ("_law_some_path" : Str), ("_law_some_files" : Str), ("_law_sorted" : Str), ("_law_part" : Str), ("_law_is_told" : Str)]
def frees : List Str := [("bool" : Str), ("list" : Str), ("tuple" : Str), ("str" : Str), ("int" : Str), ("dict" : Str), ("len" : Str), ("isinstance" : Str), ("all" : Str), ("any" : Str), ("min" : Str), ("sorted" : Str), ("range" : Str), ("enumerate" : Str), ("zip" : Str), ("set" : Str)]
def glos : List Str := [("is_path_text" : Str), ("is_path" : Str), ("is_beneath" : Str), ("is_kin" : Str), ("first_of" : Str), ("folders_above" : Str), ("checked_files" : Str), ("folders_of" : Str), ("_law_source" : Str), ("_law_draw" : Str), ("_law_pick" : Str), ("_law_same" : Str), ("_law_is_beneath" : Str), ("_law_has_room" : Str), ("_law_some_path" : Str), ("_law_some_files" : Str), ("_law_sorted" : Str), ("_law_part" : Str), ("_law_is_told" : Str), ("law" : Str)]
def chk (K : PySem.W.Frag) : Bool := clsB K ("Tree" : Str) [("_files" : Str), ("_folders" : Str)] && (insB K (He.ga K ("Tree" : Str)) && (opsB K (He.ga K ("Tree" : Str)) && ((He.Fa.meth ("Tree" : Str) ("files" : Str)).ok K && ((He.Fa.meth ("Tree" : Str) ("part" : Str)).ok K && ((He.Fa.meth ("Tree" : Str) ("firsts" : Str)).ok K && ((He.Fa.meth ("Tree" : Str) ("__or__" : Str)).ok K && ((He.Fa.meth ("Tree" : Str) ("__eq__" : Str)).ok K && ((He.Fa.meth ("Tree" : Str) ("__len__" : Str)).ok K && ((He.Fa.meth ("Tree" : Str) ("__contains__" : Str)).ok K && ((He.Fa.int ("LONGEST_NAME" : Str) 8).ok K && (frees.all (fun x => (He.Fa.free x).ok K) && (glos.all (fun x => (He.Fa.glo x).ok K)))))))))))))
def fnl : List He.DefD := [(dMod ("is_path_text" : Str) (topS 8) : He.DefD), (dMod ("is_path" : Str) (topS 7) : He.DefD), (dMod ("is_beneath" : Str) (topS 9) : He.DefD), (dMod ("is_kin" : Str) (topS 10) : He.DefD), (dMod ("first_of" : Str) (topS 11) : He.DefD), (dMod ("folders_above" : Str) (topS 15) : He.DefD), (dMod ("checked_files" : Str) (topS 14) : He.DefD), (dMod ("folders_of" : Str) (topS 16) : He.DefD), ((⟨(("Tree" : Str), some ("__init__" : Str)), ("__init__" : Str), ("Tree.__init__" : Str), defArgs (inClass (topS 13) 0), defBody (inClass (topS 13) 0), defScope (inClass (topS 13) 0), [.non], []⟩ : He.DefD) : He.DefD), ((⟨(("Tree" : Str), some ("files" : Str)), ("files" : Str), ("Tree.files" : Str), defArgs (inClass (topS 13) 1), defBody (inClass (topS 13) 1), defScope (inClass (topS 13) 1), [], []⟩ : He.DefD) : He.DefD), ((⟨(("Tree" : Str), some ("part" : Str)), ("part" : Str), ("Tree.part" : Str), defArgs (inClass (topS 13) 6), defBody (inClass (topS 13) 6), defScope (inClass (topS 13) 6), [], []⟩ : He.DefD) : He.DefD), ((⟨(("Tree" : Str), some ("firsts" : Str)), ("firsts" : Str), ("Tree.firsts" : Str), defArgs (inClass (topS 13) 7), defBody (inClass (topS 13) 7), defScope (inClass (topS 13) 7), [], []⟩ : He.DefD) : He.DefD), ((⟨(("Tree" : Str), some ("__or__" : Str)), ("__or__" : Str), ("Tree.__or__" : Str), defArgs (inClass (topS 13) 8), defBody (inClass (topS 13) 8), defScope (inClass (topS 13) 8), [], []⟩ : He.DefD) : He.DefD), ((⟨(("Tree" : Str), some ("__eq__" : Str)), ("__eq__" : Str), ("Tree.__eq__" : Str), defArgs (inClass (topS 13) 9), defBody (inClass (topS 13) 9), defScope (inClass (topS 13) 9), [], []⟩ : He.DefD) : He.DefD), ((⟨(("Tree" : Str), some ("__len__" : Str)), ("__len__" : Str), ("Tree.__len__" : Str), defArgs (inClass (topS 13) 10), defBody (inClass (topS 13) 10), defScope (inClass (topS 13) 10), [], []⟩ : He.DefD) : He.DefD), ((⟨(("Tree" : Str), some ("__contains__" : Str)), ("__contains__" : Str), ("Tree.__contains__" : Str), defArgs (inClass (topS 13) 11), defBody (inClass (topS 13) 11), defScope (inClass (topS 13) 11), [], []⟩ : He.DefD) : He.DefD), (dMod ("_law_source" : Str) (topS 18) : He.DefD), (dMod ("_law_draw" : Str) (topS 19) : He.DefD), (dMod ("_law_pick" : Str) (topS 20) : He.DefD), (dMod ("_law_same" : Str) (topS 21) : He.DefD), (dMod ("_law_is_beneath" : Str) (topS 22) : He.DefD), (dMod ("_law_has_room" : Str) (topS 23) : He.DefD), (dMod ("_law_some_path" : Str) (topS 24) : He.DefD), (dMod ("_law_some_files" : Str) (topS 25) : He.DefD), (dMod ("_law_sorted" : Str) (topS 26) : He.DefD), (dMod ("_law_part" : Str) (topS 27) : He.DefD), (dMod ("_law_is_told" : Str) (topS 28) : He.DefD), (dMod ("law" : Str) (topS 29) : He.DefD)]
abbrev R : PySem.W.OpenRow := PySem.W.OpenLaw.row PySem.Challenge.rw_noteshold_k02_trees_told
abbrev qv : Program := PySem.W.view R.prog [29]
abbrev hk : PySem.W.Hook := hookX chk fnl
def ob (s : PySem.W.SharedT) : He.AlD := obsXG chk fnl (HandSHeadRun.getT s)
def obK (s : PySem.W.SharedT) : PySem.W.Frag := He.frG (HandSHeadRun.getT s) (reachE (HandSHeadRun.getT s))
theorem ob_eq (s : PySem.W.SharedT) : ob s = hk.obs s.abs := obsXG_eq (HandSHeadRun.getT_eq s)
noncomputable def fin (w : World) (os : OsState) : Option PySem.W.SharedT := HandSHeadRun.endF (HandSHeadRun.stepQ (HandSHeadRun.denQ HandSHeadRun.tabQ) R.prog w) 3000 R.prog w os
theorem r1 (w : World) (os : OsState) : (fin w os).map (fun s => HandSHeadRun.looksF R.prog (PySem.W.boot_heap w.params) s.abs) = some true := by kernel_rfl
theorem r2 (w : World) (os : OsState) : (fin w os).map (fun s => HandSHeadRun.seenQ qv loose (importedModules R.prog.main.body) (fun s => PySem.W.xlAt qv [] s && PySem.W.recOk R.toRowW.records s) s.abs) = some (PySem.W.openGood qv loose) := by kernel_rfl
theorem r3 (w : World) (os : OsState) : (fin w os).map (fun s => chk (obK s)) = some true := by kernel_rfl
theorem r4 (w : World) (os : OsState) : (fin w os).map (fun s => obsX (fun _ => true) fnl (obK s)) = some (He.valD fnl) := by kernel_rfl
theorem run (w : World) : HandSHeadRun.RunEq R qv hk ob 3000 loose w := by
  intro os
  obtain ⟨s, hs, h1⟩ := Option.map_eq_some_iff.mp (r1 w os)
  have h2 := r2 w os
  have h3 := r3 w os
  have h4 := r4 w os
  rw [hs] at h2 h3 h4
  have e2 := Option.some.inj h2
  have e3 : chk (obK s) = true := Option.some.inj h3
  have e4 : obsX (fun _ => true) fnl (obK s) = He.valD fnl := Option.some.inj h4
  have e5 : ob s = He.valD fnl := by
    show obsX chk fnl (obK s) = _
    rw [← e4]
    unfold obsX
    rw [e3]
  show (fin w os).map _ = some (true, PySem.W.openGood qv loose, He.valD fnl)
  rw [hs]
  show some (_, _, _) = _
  rw [h1, e5]
  exact congrArg (fun z => some (true, z, He.valD fnl)) e2
end K2
namespace K2
open PySem PySem.Spec PyProof.Rows L2 Nb RZ
/-! is_path_text -/
abbrev s_is_path_text : Stmt := topS 8
def nN_is_path_text : List Str := ["text", "name"]
theorem sc_is_path_text : FnScope nN_is_path_text ["text"] (defScope s_is_path_text) := ⟨rfl, rfl, rfl, by decide +kernel, rfl, by decide +kernel, by decide +kernel⟩
def mb_is_path_text : MS := (mSeq (mIfS (evT (mOrT (mNotT (mTru (mFun1 isasciiD (mV 0)))) (mCmp neD3 (mV 0) (mFun1 lowerD (mV 0))))) (mRet (evA (mC (.bl false)))) mNil) (mSeq (mIfS (evT (mTru (mFun1 isalnumD (mV 0)))) (mRet (evA (asE (mCmp leD (mFun lenD (mCons (mV 0) (fun _ => pure []))) (mC (.int 8)))))) mNil) (mSeq (mFor (mSeqI (mOp splitD (mV 0) (mC (.str "/")))) (gN 1) (mIfS (evT (mOrT (mNotT (mTru (mFun1 isalnumD (mV 1)))) (mCmp gtD (mFun lenD (mCons (mV 1) (fun _ => pure []))) (mC (.int 8))))) (mRet (evA (mC (.bl false)))) mNil)) (mRet (evA (mC (.bl true)))))))
def mf_is_path_text : List D → M D := mDef 2 mb_is_path_text
set_option maxHeartbeats 4000000 in
theorem body_is_path_text {P : Program} {w : World} {K : PySem.W.Frag} {mg : Str → Option Value} {base : Heap} {G : Gx} {f : Addr} (T : Tx K mg G)  : BodyOk P w K mg base G "is_path_text" s_is_path_text f nN_is_path_text 0 mb_is_path_text := by
  intro cdv A outer s H E hr
  have hK : K = G.K := T.hK
  have hN : (nN_is_path_text).Nodup := sc_is_path_text.nd
  have hu := hu64 hr
  exact (ss_cons (sp_if (PW.pt (sw_or (st_not (st_val hK (se_isascii (se_var (i := 0))))) (sw_or1 (st_ne3 hK hu (se_var (i := 0)) (se_lower (se_var (i := 0))))))) evT_ok (ss_one (sp_ret se_bl evA_ok)) ss_nil) (ss_cons (sp_if (st_val hK (se_isalnum (se_var (i := 0)))) evT_ok (ss_one (sp_ret (se_le (se_len hK T.z_len (sa_cons (se_var (i := 0)) sa_nil)) (se_gintX T.c_LONGEST_NAME)) evA_ok)) ss_nil) (ss_cons (sp_for PassesOwn.never rfl (si_seq hK (se_split (se_var (i := 0)) se_str)) (sg_name (i := 1) hN rfl (by first | exact .inl rfl | exact .inr rfl)) (ss_one (sp_if (PW.pt (sw_or (st_not (st_val hK (se_isalnum (se_var (i := 1))))) (sw_or1 (st_gt (se_len hK T.z_len (sa_cons (se_var (i := 1)) sa_nil)) (se_gintX T.c_LONGEST_NAME))))) evT_ok (ss_one (sp_ret se_bl evA_ok)) ss_nil))) (ss_one (sp_ret se_bl evA_ok)))))
/-! is_path -/
abbrev s_is_path : Stmt := topS 7
def nN_is_path : List Str := ["thing"]
theorem sc_is_path : FnScope nN_is_path ["thing"] (defScope s_is_path) := ⟨rfl, rfl, rfl, by decide +kernel, rfl, by decide +kernel, by decide +kernel⟩
def mb_is_path : MS := (mRet (evA (mAnd (mFun isiD (mCons (mV 0) (mCons (mC (.ty "str")) (fun _ => pure [])))) (mCall 1 [] mf_is_path_text (mCons (mV 0) (fun _ => pure []))))))
def mf_is_path : List D → M D := mDef 1 mb_is_path
set_option maxHeartbeats 4000000 in
theorem body_is_path {P : Program} {w : World} {K : PySem.W.Frag} {mg : Str → Option Value} {base : Heap} {G : Gx} {f : Addr} (T : Tx K mg G) (U_is_path_text : DefOk P w K mg base G 1 "is_path_text" 1 [] mf_is_path_text) : BodyOk P w K mg base G "is_path" s_is_path f nN_is_path 1 mb_is_path := by
  intro cdv A outer s H E hr
  have hK : K = G.K := T.hK
  have hN : (nN_is_path).Nodup := sc_is_path.nd
  have hu := hu64 hr
  exact (ss_one (sp_ret (se_and hK (se_isi hK T.z_isinstance (sa_cons (se_var (i := 0)) (sa_cons (se_ty T.z_str (by decide +kernel)) sa_nil))) (se_one (se_call U_is_path_text (hr.mono (by first | decide | omega)) (sa_cons (se_var (i := 0)) sa_nil) pass0))) evA_ok))
/-! is_beneath -/
abbrev s_is_beneath : Stmt := topS 9
def nN_is_beneath : List Str := ["path", "other"]
theorem sc_is_beneath : FnScope nN_is_beneath ["path", "other"] (defScope s_is_beneath) := ⟨rfl, rfl, rfl, by decide +kernel, rfl, by decide +kernel, by decide +kernel⟩
def mb_is_beneath : MS := (mRet (evA (mOp startsD (mV 0) (mOp addD (mV 1) (mC (.str "/"))))))
def mf_is_beneath : List D → M D := mDef 2 mb_is_beneath
set_option maxHeartbeats 4000000 in
theorem body_is_beneath {P : Program} {w : World} {K : PySem.W.Frag} {mg : Str → Option Value} {base : Heap} {G : Gx} {f : Addr} (T : Tx K mg G)  : BodyOk P w K mg base G "is_beneath" s_is_beneath f nN_is_beneath 0 mb_is_beneath := by
  intro cdv A outer s H E hr
  have hK : K = G.K := T.hK
  have hN : (nN_is_beneath).Nodup := sc_is_beneath.nd
  have hu := hu64 hr
  exact (ss_one (sp_ret (se_starts (se_var (i := 0)) (se_add hK (se_var (i := 1)) se_str)) evA_ok))
/-! is_kin -/
abbrev s_is_kin : Stmt := topS 10
def nN_is_kin : List Str := ["one", "other"]
theorem sc_is_kin : FnScope nN_is_kin ["one", "other"] (defScope s_is_kin) := ⟨rfl, rfl, rfl, by decide +kernel, rfl, by decide +kernel, by decide +kernel⟩
def mb_is_kin : MS := (mRet (evA (mOr (asE (mCmp eqD3 (mV 0) (mV 1))) (mOr (mCall 2 [] mf_is_beneath (mCons (mV 0) (mCons (mV 1) (fun _ => pure [])))) (mCall 2 [] mf_is_beneath (mCons (mV 1) (mCons (mV 0) (fun _ => pure []))))))))
def mf_is_kin : List D → M D := mDef 2 mb_is_kin
set_option maxHeartbeats 4000000 in
theorem body_is_kin {P : Program} {w : World} {K : PySem.W.Frag} {mg : Str → Option Value} {base : Heap} {G : Gx} {f : Addr} (T : Tx K mg G) (U_is_beneath : DefOk P w K mg base G 1 "is_beneath" 2 [] mf_is_beneath) : BodyOk P w K mg base G "is_kin" s_is_kin f nN_is_kin 1 mb_is_kin := by
  intro cdv A outer s H E hr
  have hK : K = G.K := T.hK
  have hN : (nN_is_kin).Nodup := sc_is_kin.nd
  have hu := hu64 hr
  exact (ss_one (sp_ret (se_or hK (se_eq3 hK hu (se_var (i := 0)) (se_var (i := 1))) (se_or hK (se_call U_is_beneath (hr.mono (by first | decide | omega)) (sa_cons (se_var (i := 0)) (sa_cons (se_var (i := 1)) sa_nil)) pass0) (se_one (se_call U_is_beneath (hr.mono (by first | decide | omega)) (sa_cons (se_var (i := 1)) (sa_cons (se_var (i := 0)) sa_nil)) pass0)))) evA_ok))
/-! first_of -/
abbrev s_first_of : Stmt := topS 11
def nN_first_of : List Str := ["path"]
theorem sc_first_of : FnScope nN_first_of ["path"] (defScope s_first_of) := ⟨rfl, rfl, rfl, by decide +kernel, rfl, by decide +kernel, by decide +kernel⟩
def mb_first_of : MS := (mRet (evA (mOp subD (mOp partD (mV 0) (mC (.str "/"))) (mC (.int 0)))))
def mf_first_of : List D → M D := mDef 1 mb_first_of
set_option maxHeartbeats 4000000 in
theorem body_first_of {P : Program} {w : World} {K : PySem.W.Frag} {mg : Str → Option Value} {base : Heap} {G : Gx} {f : Addr} (T : Tx K mg G)  : BodyOk P w K mg base G "first_of" s_first_of f nN_first_of 0 mb_first_of := by
  intro cdv A outer s H E hr
  have hK : K = G.K := T.hK
  have hN : (nN_first_of).Nodup := sc_first_of.nd
  have hu := hu64 hr
  exact (ss_one (sp_ret (se_sub_ix hK hu (se_part (se_var (i := 0)) se_str) se_int) evA_ok))
/-! folders_above -/
abbrev s_folders_above : Stmt := topS 15
def nN_folders_above : List Str := ["path", "names", "size"]
theorem sc_folders_above : FnScope nN_folders_above ["path"] (defScope s_folders_above) := ⟨rfl, rfl, rfl, by decide +kernel, rfl, by decide +kernel, by decide +kernel⟩
def mb_folders_above : MS := (mSeq (mSet (gN 1) (evA (mOp splitD (mV 0) (mC (.str "/"))))) (mRet (evA (mFz (mComp [2] (mFunI rngF2 (mCons (mC (.int 1)) (mCons (mFun lenD (mCons (mV 1) (fun _ => pure []))) (fun _ => pure [])))) (gN 2) tYesM (mOp joinD (mC (.str "/")) (mSl (mV 1) mNo (mPart (mV 2)))))))))
def mf_folders_above : List D → M D := mDef 3 mb_folders_above
set_option maxHeartbeats 4000000 in
theorem body_folders_above {P : Program} {w : World} {K : PySem.W.Frag} {mg : Str → Option Value} {base : Heap} {G : Gx} {f : Addr} (T : Tx K mg G)  : BodyOk P w K mg base G "folders_above" s_folders_above f nN_folders_above 0 mb_folders_above := by
  intro cdv A outer s H E hr
  have hK : K = G.K := T.hK
  have hN : (nN_folders_above).Nodup := sc_folders_above.nd
  have hu := hu64 hr
  exact (ss_cons (sp_set (i := 1) (se_split (se_var (i := 0)) se_str) evA_ok hN rfl (by first | exact .inl rfl | exact .inr rfl)) (ss_one (sp_ret (se_frz (so_lc (own := [("size", 2)]) rfl hN (si_range2 T.z_range (sa_cons se_int (sa_cons (se_len hK T.z_len (sa_cons (se_var (i := 1)) sa_nil)) sa_nil))) (blkOk_by (N := nN_folders_above) (sc := defScope s_folders_above) (by decide +kernel)) (fun _ _ _ _ _ => (sg_name (i := 2) hN rfl (by first | exact .inl rfl | exact .inr rfl))) (fun _ _ _ _ _ => sts_nil) (fun _ _ _ _ _ => (se_join hK se_str (se_slice hK (se_var (i := 1)) so_none (so_some (se_var (i := 2)))))))) evA_ok)))
/-! checked_files -/
abbrev s_checked_files : Stmt := topS 14
def nN_checked_files : List Str := ["files", "path", "stood", "above", "folders", "folder"]
theorem sc_checked_files : FnScope nN_checked_files ["files"] (defScope s_checked_files) := ⟨rfl, rfl, rfl, by decide +kernel, rfl, by decide +kernel, by decide +kernel⟩
def mb_checked_files : MS := (mSeq (mIfS (evT (mIsN (mV 0))) (mRet (evA (mFz (fun _ => pure (.dct []))))) mNil) (mSeq (mIfS (evT (mNotT (mTru (mFun isiD (mCons (mV 0) (mCons (mC (.ty "dict")) (fun _ => pure []))))))) mStuck mNil) (mSeq (mFor (mLkI keysD (mV 0)) (gN 1) (mIfS (evT (mOrT (mNotT (mTru (mCall 1 [] mf_is_path (mCons (mV 1) (fun _ => pure []))))) (mNotT (mTru (mFun isiD (mCons (mOp subD (mV 0) (mV 1)) (mCons (mC (.ty "str")) (fun _ => pure [])))))))) mStuck mNil)) (mSeq (mNew 2 (evP (fun _ => pure (.dct [])))) (mSeq (mNew 3 (evP (fun _ => pure (.dct [])))) (mSeq (mFor (mLkI keysD (mV 0)) (gN 1) (mSeq (mSet (gN 4) (evA (mCall 1 [] mf_folders_above (mCons (mV 1) (fun _ => pure []))))) (mSeq (mIfS (evT (mOrT (mCmp inD (mV 1) (mV 3)) (mTru (mFun anyD (mCons (mFz (mComp [5] (mSeqI (mV 4)) (gN 5) tYesM (asE (mCmp inD (mV 5) (mV 2))))) (fun _ => pure [])))))) mStuck mNil) (mSeq (mPut 2 (evA (mV 1)) (evA (mC (.bl true)))) (mFor (mSeqI (mV 4)) (gN 5) (mPut 3 (evA (mV 5)) (evA (mC (.bl true))))))))) (mRet (evA (mV 0)))))))))
def mf_checked_files : List D → M D := mDef 6 mb_checked_files
set_option maxHeartbeats 4000000 in
theorem body_checked_files {P : Program} {w : World} {K : PySem.W.Frag} {mg : Str → Option Value} {base : Heap} {G : Gx} {f : Addr} (T : Tx K mg G) (U_folders_above : DefOk P w K mg base G 1 "folders_above" 1 [] mf_folders_above) (U_is_path : DefOk P w K mg base G 2 "is_path" 1 [] mf_is_path) : BodyOk P w K mg base G "checked_files" s_checked_files f nN_checked_files 2 mb_checked_files := by
  intro cdv A outer s H E hr
  have hK : K = G.K := T.hK
  have hN : (nN_checked_files).Nodup := sc_checked_files.nd
  have hu := hu64 hr
  exact (ss_cons (sp_if (st_isN (se_var (i := 0))) evT_ok (ss_one (sp_ret (se_frz so_dict0) evA_ok)) ss_nil) (ss_cons (sp_if (st_not (st_val hK (se_isi hK T.z_isinstance (sa_cons (se_var (i := 0)) (sa_cons (se_ty T.z_dict (by decide +kernel)) sa_nil))))) evT_ok (ss_one sp_stuck) ss_nil) (ss_cons (sp_forD told_var sok_keys wk_keys PassesOwn.never rfl (pi_keys (pv 0)) (sg_name (i := 1) hN rfl (by first | exact .inl rfl | exact .inr rfl)) (ss_one (sp_if (PW.pt (sw_or (st_not (st_val hK (se_call U_is_path (hr.mono (by first | decide | omega)) (sa_cons (se_var (i := 1)) sa_nil) pass0))) (sw_or1 (st_not (st_val hK (se_isi hK T.z_isinstance (sa_cons (se_sub_ix hK hu (se_var (i := 0)) (se_var (i := 1))) (sa_cons (se_ty T.z_str (by decide +kernel)) sa_nil)))))))) evT_ok (ss_one sp_stuck) ss_nil))) (ss_cons (sp_newP (i := 2) so_dict0 evP_ok hN rfl (by first | exact .inl rfl | exact .inr rfl)) (ss_cons (sp_newP (i := 3) so_dict0 evP_ok hN rfl (by first | exact .inl rfl | exact .inr rfl)) (ss_cons (sp_forD told_var sok_keys wk_keys PassesOwn.never rfl (pi_keys (pv 0)) (sg_name (i := 1) hN rfl (by first | exact .inl rfl | exact .inr rfl)) (ss_cons (sp_set (i := 4) (se_call U_folders_above (hr.mono (by first | decide | omega)) (sa_cons (se_var (i := 1)) sa_nil) pass0) evA_ok hN rfl (by first | exact .inl rfl | exact .inr rfl)) (ss_cons (sp_if (PW.pt (sw_or (st_in hK hu (se_var (i := 1)) (se_var (i := 3))) (sw_or1 (st_val hK (se_any hK rfl T.z_any (sa_cons (se_frz (so_lc (own := [("folder", 5)]) rfl hN (si_seq hK (se_var (i := 4))) (blkOk_by (N := nN_checked_files) (sc := defScope s_checked_files) (by decide +kernel)) (fun _ _ _ _ _ => (sg_name (i := 5) hN rfl (by first | exact .inl rfl | exact .inr rfl))) (fun _ _ _ _ _ => sts_nil) (fun _ _ _ _ _ => (se_in hK hu (se_var (i := 5)) (se_var (i := 2)))))) sa_nil)))))) evT_ok (ss_one sp_stuck) ss_nil) (ss_cons (sp_dput (i := 2) hu (pv 2) (se_var (i := 1)) evA_ok se_bl evA_ok) (ss_one (sp_for PassesOwn.never rfl (si_seq hK (se_var (i := 4))) (sg_name (i := 5) hN rfl (by first | exact .inl rfl | exact .inr rfl)) (ss_one (sp_dput (i := 3) hu (pv 3) (se_var (i := 5)) evA_ok se_bl evA_ok)))))))) (ss_one (sp_ret (se_var (i := 0)) evA_ok))))))))
/-! folders_of -/
abbrev s_folders_of : Stmt := topS 16
def nN_folders_of : List Str := ["files", "found", "path", "folders", "inner", "k", "folder", "stroke"]
theorem sc_folders_of : FnScope nN_folders_of ["files"] (defScope s_folders_of) := ⟨rfl, rfl, rfl, by decide +kernel, rfl, by decide +kernel, by decide +kernel⟩
def mb_folders_of : MS := (mSeq (mNew 1 (evP fun _ => pure (.dl []))) (mSeq (mFor (mLkI keysD (mV 0)) (gN 2) (mSeq (mSet (gN 3) (evA (mCall 1 [] mf_folders_above (mCons (mV 2) (fun _ => pure []))))) (mSeq (mSet (gN 4) (evA (mOp addD (mSl (mV 3) (mPart (mC (.int 1))) mNo) (mLst (mCons (mV 2) (fun _ => pure [])))))) (mFor (mFunI enumF (mCons (mV 3) (fun _ => pure []))) (gT 2 (gsC (gN 5) (gsC (gN 6) gs0))) (mSeq (mSet (gN 7) (evA (mIf (mCmp ltD (mV 5) (mOp subI (mFun lenD (mCons (mV 3) (fun _ => pure []))) (mC (.int 1)))) (mC (.str "/")) (mC (.str ""))))) (mDl 1 (evA (mV 6)) (evA (mOp addD (mSl (mOp subD (mV 4) (mV 5)) (mPart (mOp addD (mFun lenD (mCons (mV 6) (fun _ => pure []))) (mC (.int 1)))) mNo) (mV 7))))))))) (mFrzDl 1 (mRetO (evP (mDcomp [6] (mSeqI (mFz (mFunO sortO (mCons (mFz (mFunO listO3 (mCons (mV 1) (fun _ => pure [])))) (fun _ => pure []))))) (gN 6) tYesM (mV 6) (mFun tupF (mCons (mFz (mFunO sortSO (mCons (mOp subD (mV 1) (mV 6)) fun _ => pure []))) (fun _ => pure [])))))))))
def mf_folders_of : List D → M Own := mDefO 8 mb_folders_of
set_option maxHeartbeats 4000000 in
theorem body_folders_of {P : Program} {w : World} {K : PySem.W.Frag} {mg : Str → Option Value} {base : Heap} {G : Gx} {f : Addr} (T : Tx K mg G) (U_folders_above : DefOk P w K mg base G 1 "folders_above" 1 [] mf_folders_above) : BodyOk P w K mg base G "folders_of" s_folders_of f nN_folders_of 1 mb_folders_of := by
  intro cdv A outer s H E hr
  have hK : K = G.K := T.hK
  have hN : (nN_folders_of).Nodup := sc_folders_of.nd
  have hu := hu64 hr
  exact (ss_cons (sp_newP (i := 1) so_dl0 evP_ok hN rfl (by first | exact .inl rfl | exact .inr rfl)) (ss_cons (sp_forD told_var sok_keys wk_keys PassesOwn.never rfl (pi_keys (pv 0)) (sg_name (i := 2) hN rfl (by first | exact .inl rfl | exact .inr rfl)) (ss_cons (sp_set (i := 3) (se_call U_folders_above (hr.mono (by first | decide | omega)) (sa_cons (se_var (i := 2)) sa_nil) pass0) evA_ok hN rfl (by first | exact .inl rfl | exact .inr rfl)) (ss_cons (sp_set (i := 4) (se_add hK (se_slice hK (se_var (i := 3)) (so_some se_int) so_none) (se_lst (sa_cons (se_var (i := 2)) sa_nil))) evA_ok hN rfl (by first | exact .inl rfl | exact .inr rfl)) (ss_one (sp_for PassesOwn.never rfl (si_enum hK T.z_enumerate (sa_cons (se_var (i := 3)) sa_nil)) (sg_tup (n := 2) hK rfl (sgs_cons (sg_name (i := 5) hN rfl (by first | exact .inl rfl | exact .inr rfl)) (sgs_cons (sg_name (i := 6) hN rfl (by first | exact .inl rfl | exact .inr rfl)) sgs_nil))) (ss_cons (sp_set (i := 7) (se_if (st_lt (se_var (i := 5)) (se_sub (se_len hK T.z_len (sa_cons (se_var (i := 3)) sa_nil)) se_int)) se_str se_str) evA_ok hN rfl (by first | exact .inl rfl | exact .inr rfl)) (ss_one (sp_dl (i := 1) (pv 1) (se_var (i := 6)) evA_ok (se_add hK (se_slice hK (se_sub_ix hK hu (se_var (i := 4)) (se_var (i := 5))) (so_some (se_add hK (se_len hK T.z_len (sa_cons (se_var (i := 6)) sa_nil)) se_int)) so_none) (se_var (i := 7))) evA_ok ⟨by rfl, by rfl, by rfl, by rfl⟩)))))))) (ss_frzDl (i := 1) (ss_one (sp_retO (so_dc (own := [("folder", 6)]) rfl hN (si_seq hK (se_frz (so_sorted hK rfl T.z_sorted (sa_cons (se_frz (so_list3 hK rfl T.z_list (sa_cons (se_var (i := 1)) sa_nil))) sa_nil)))) (blkOk_by (N := nN_folders_of) (sc := defScope s_folders_of) (by decide +kernel)) (fun _ _ _ _ _ => (sg_name (i := 6) hN rfl (by first | exact .inl rfl | exact .inr rfl))) (fun _ _ _ _ _ => sts_nil) (fun _ _ _ _ _ => (se_var (i := 6))) (fun _ _ _ _ _ => (se_tuple hK T.z_tuple (sa_cons (se_frz (so_sortedSet hK rfl T.z_sorted T.z_set (se_sub_ix hK hu (se_var (i := 1)) (se_var (i := 6))))) sa_nil)))) evP_ok)))))
/-! Tree.__init__ -/
abbrev s_Tree_init : Stmt := inClass (topS 13) 0
def nN_Tree_init : List Str := ["self", "files", "told", "path"]
theorem sc_Tree_init : FnScope nN_Tree_init ["self", "files"] (defScope s_Tree_init) := ⟨rfl, rfl, rfl, by decide +kernel, rfl, by decide +kernel, by decide +kernel⟩
def mb_Tree_init : MS := (mSeq (mSet (gN 2) (evA (mCall 1 [] mf_checked_files (mCons (mV 1) (fun _ => pure []))))) (mSeq (mSetF "Tree" ["_files", "_folders"] 0 "_files" (evA (mFz (mDcomp [3] (mSeqI (mFz (mFunO sortO (mCons (mV 2) (fun _ => pure []))))) (gN 3) tYesM (mV 3) (mOp subD (mV 2) (mV 3)))))) (mSetF "Tree" ["_files", "_folders"] 0 "_folders" (evA (mFz (mCallO 1 [] mf_folders_of (mCons (mV 2) (fun _ => pure []))))))))
def mf_Tree_init : List D → M (List D) := mInit "Tree" 2 4 mb_Tree_init
set_option maxHeartbeats 4000000 in
theorem body_Tree_init {P : Program} {w : World} {K : PySem.W.Frag} {mg : Str → Option Value} {base : Heap} {G : Gx} {f : Addr} (T : Tx K mg G) (U_checked_files : DefOk P w K mg base G 3 "checked_files" 1 [] mf_checked_files) (U_folders_of : DefOkO P w K mg base G 2 "folders_of" 1 [] mf_folders_of) : BodyOk P w K mg base G "Tree.__init__" s_Tree_init f nN_Tree_init 3 mb_Tree_init := by
  intro cdv A outer s H E hr
  have hK : K = G.K := T.hK
  have hN : (nN_Tree_init).Nodup := sc_Tree_init.nd
  have hu := hu64 hr
  exact (ss_cons (sp_set (i := 2) (se_call U_checked_files (hr.mono (by first | decide | omega)) (sa_cons (se_var (i := 1)) sa_nil) pass0) evA_ok hN rfl (by first | exact .inl rfl | exact .inr rfl)) (ss_cons (sp_fld (i := 0) (fl := ["_files", "_folders"]) hK T.kg_Tree T.fl_Tree (by decide) (pv 0) (se_frz (so_dc (own := [("path", 3)]) rfl hN (si_seq hK (se_frz (so_sorted hK rfl T.z_sorted (sa_cons (se_var (i := 2)) sa_nil)))) (blkOk_by (N := nN_Tree_init) (sc := defScope s_Tree_init) (by decide +kernel)) (fun _ _ _ _ _ => (sg_name (i := 3) hN rfl (by first | exact .inl rfl | exact .inr rfl))) (fun _ _ _ _ _ => sts_nil) (fun _ _ _ _ _ => (se_var (i := 3))) (fun _ _ _ _ _ => (se_sub_ix hK hu (se_var (i := 2)) (se_var (i := 3)))))) evA_ok) (ss_one (sp_fld (i := 0) (fl := ["_files", "_folders"]) hK T.kg_Tree T.fl_Tree (by decide) (pv 0) (se_frz (so_call U_folders_of (hr.mono (by first | decide | omega)) (sa_cons (se_var (i := 2)) sa_nil) pass0)) evA_ok))))
set_option maxHeartbeats 4000000 in
theorem bodyN_Tree_init {P : Program} {w : World} {K : PySem.W.Frag} {mg : Str → Option Value} {base : Heap} {G : Gx} {f : Addr} (T : Tx K mg G) (U_checked_files : DefOk P w K mg base G 3 "checked_files" 1 [] mf_checked_files) (U_folders_of : DefOkO P w K mg base G 2 "folders_of" 1 [] mf_folders_of) : BodyOkN P w K mg base G "Tree.__init__" s_Tree_init f nN_Tree_init 3 mb_Tree_init := by
  intro cdv A outer s H E hr
  have hK : K = G.K := T.hK
  have hN : (nN_Tree_init).Nodup := sc_Tree_init.nd
  have hu := hu64 hr
  exact (sN_cons (sN_set (i := 2) (se_call U_checked_files (hr.mono (by first | decide | omega)) (sa_cons (se_var (i := 1)) sa_nil) pass0) evA_ok hN rfl (by first | exact .inl rfl | exact .inr rfl)) (sN_cons (sN_fld (i := 0) (fl := ["_files", "_folders"]) hK T.kg_Tree T.fl_Tree (by decide) (pv 0) (so_dc (own := [("path", 3)]) rfl hN (si_seq hK (se_frz (so_sorted hK rfl T.z_sorted (sa_cons (se_var (i := 2)) sa_nil)))) (blkOk_by (N := nN_Tree_init) (sc := defScope s_Tree_init) (by decide +kernel)) (fun _ _ _ _ _ => (sg_name (i := 3) hN rfl (by first | exact .inl rfl | exact .inr rfl))) (fun _ _ _ _ _ => sts_nil) (fun _ _ _ _ _ => (se_var (i := 3))) (fun _ _ _ _ _ => (se_sub_ix hK hu (se_var (i := 2)) (se_var (i := 3)))))) (sN_one (sN_fld (i := 0) (fl := ["_files", "_folders"]) hK T.kg_Tree T.fl_Tree (by decide) (pv 0) (so_call U_folders_of (hr.mono (by first | decide | omega)) (sa_cons (se_var (i := 2)) sa_nil) pass0)))))
/-! Tree.files -/
abbrev s_Tree_files : Stmt := inClass (topS 13) 1
def nN_Tree_files : List Str := ["self"]
theorem sc_Tree_files : FnScope nN_Tree_files ["self"] (defScope s_Tree_files) := ⟨rfl, rfl, rfl, by decide +kernel, rfl, by decide +kernel, by decide +kernel⟩
def mb_Tree_files : MS := (mRetO (evP (mFunO dictO2 (mCons (mFun1 (fldD "Tree" 0) (mV 0)) (fun _ => pure [])))))
def mf_Tree_files : List D → M Own := mDefO 1 mb_Tree_files
set_option maxHeartbeats 4000000 in
theorem body_Tree_files {P : Program} {w : World} {K : PySem.W.Frag} {mg : Str → Option Value} {base : Heap} {G : Gx} {f : Addr} (T : Tx K mg G)  : BodyOk P w K mg base G "Tree.files" s_Tree_files f nN_Tree_files 0 mb_Tree_files := by
  intro cdv A outer s H E hr
  have hK : K = G.K := T.hK
  have hN : (nN_Tree_files).Nodup := sc_Tree_files.nd
  have hu := hu64 hr
  exact (ss_one (sp_retO (so_dict2 hK rfl T.z_dict (sa_cons (se_fld (i := 0) T.k_Tree T.f_Tree_0 (se_var (i := 0))) sa_nil)) evP_ok))
/-! Tree.part -/
abbrev s_Tree_part : Stmt := inClass (topS 13) 6
def nN_Tree_part : List Str := ["self", "path", "beneath", "name"]
theorem sc_Tree_part : FnScope nN_Tree_part ["self", "path"] (defScope s_Tree_part) := ⟨rfl, rfl, rfl, by decide +kernel, rfl, by decide +kernel, by decide +kernel⟩
def mb_Tree_part : MS := (mSeq (mIfS (evT (mNotT (mTru (mCall 1 [] mf_is_path (mCons (mV 1) (fun _ => pure [])))))) mStuck mNil) (mSeq (mSet (gN 2) (evA (mFz (mComp [3] (mLkI keysD (mFun1 (fldD "Tree" 0) (mV 0))) (gN 3) (mTru (mCall 2 [] mf_is_beneath (mCons (mV 3) (mCons (mV 1) (fun _ => pure []))))) (mV 3))))) (mRet (evA (mMake "Tree" 1 [] mf_Tree_init (mCons (mFz (mDcomp [3] (mSeqI (mV 2)) (gN 3) tYesM (mSl (mV 3) (mPart (mOp addD (mFun lenD (mCons (mV 1) (fun _ => pure []))) (mC (.int 1)))) mNo) (mOp subD (mFun1 (fldD "Tree" 0) (mV 0)) (mV 3)))) (fun _ => pure [])))))))
def mf_Tree_part : List D → M D := mDef 4 mb_Tree_part
set_option maxHeartbeats 4000000 in
theorem body_Tree_part {P : Program} {w : World} {K : PySem.W.Frag} {mg : Str → Option Value} {base : Heap} {G : Gx} {f : Addr} (T : Tx K mg G) (U_Tree_init : MakOk P w K mg base G 4 "Tree" 1 [] mf_Tree_init) (U_is_path : DefOk P w K mg base G 2 "is_path" 1 [] mf_is_path) (U_is_beneath : DefOk P w K mg base G 1 "is_beneath" 2 [] mf_is_beneath) : BodyOk P w K mg base G "Tree.part" s_Tree_part f nN_Tree_part 5 mb_Tree_part := by
  intro cdv A outer s H E hr
  have hK : K = G.K := T.hK
  have hN : (nN_Tree_part).Nodup := sc_Tree_part.nd
  have hu := hu64 hr
  exact (ss_cons (sp_if (st_not (st_val hK (se_call U_is_path (hr.mono (by first | decide | omega)) (sa_cons (se_var (i := 1)) sa_nil) pass0))) evT_ok (ss_one sp_stuck) ss_nil) (ss_cons (sp_lcSD (told_fldK hK (i := 0) T.kg_Tree T.f_Tree_0 told_var) sok_keys wk_keys (i := 2) (own := [("name", 3)]) rfl hN rfl rfl (sw_true rfl rfl rfl (by decide +kernel)) (pi_keys (pe_fld (pv 0) rfl)) (blkOk_by (N := nN_Tree_part) (sc := defScope s_Tree_part) (by decide +kernel)) (fun _ _ _ _ _ => (sg_name (i := 3) hN rfl (by first | exact .inl rfl | exact .inr rfl))) (fun _ _ _ _ _ => (sts_one (st_val hK (se_call U_is_beneath (hr.mono (by first | decide | omega)) (sa_cons (se_var (i := 3)) (sa_cons (se_var (i := 1)) sa_nil)) pass0)))) (fun _ _ _ _ _ => (se_var (i := 3)))) (ss_one (sp_ret (se_make U_Tree_init (hr.mono (by first | decide | omega)) (sa_cons (se_frz (so_dc (own := [("name", 3)]) rfl hN (si_seq hK (se_var (i := 2))) (blkOk_by (N := nN_Tree_part) (sc := defScope s_Tree_part) (by decide +kernel)) (fun _ _ _ _ _ => (sg_name (i := 3) hN rfl (by first | exact .inl rfl | exact .inr rfl))) (fun _ _ _ _ _ => sts_nil) (fun _ _ _ _ _ => (se_slice hK (se_var (i := 3)) (so_some (se_add hK (se_len hK T.z_len (sa_cons (se_var (i := 1)) sa_nil)) se_int)) so_none)) (fun _ _ _ _ _ => (se_sub_ix hK hu (se_fld (i := 0) T.k_Tree T.f_Tree_0 (se_var (i := 0))) (se_var (i := 3)))))) sa_nil) pass0) evA_ok))))
/-! Tree.firsts -/
abbrev s_Tree_firsts : Stmt := inClass (topS 13) 7
def nN_Tree_firsts : List Str := ["self", "path"]
theorem sc_Tree_firsts : FnScope nN_Tree_firsts ["self"] (defScope s_Tree_firsts) := ⟨rfl, rfl, rfl, by decide +kernel, rfl, by decide +kernel, by decide +kernel⟩
def mb_Tree_firsts : MS := (mRetO (evP (mFunO sortSO (mCons (mFz (mComp [1] (mLkI keysD (mFun1 (fldD "Tree" 0) (mV 0))) (gN 1) tYesM (mCall 1 [] mf_first_of (mCons (mV 1) (fun _ => pure []))))) fun _ => pure []))))
def mf_Tree_firsts : List D → M Own := mDefO 2 mb_Tree_firsts
set_option maxHeartbeats 4000000 in
theorem body_Tree_firsts {P : Program} {w : World} {K : PySem.W.Frag} {mg : Str → Option Value} {base : Heap} {G : Gx} {f : Addr} (T : Tx K mg G) (U_first_of : DefOk P w K mg base G 1 "first_of" 1 [] mf_first_of) : BodyOk P w K mg base G "Tree.firsts" s_Tree_firsts f nN_Tree_firsts 1 mb_Tree_firsts := by
  intro cdv A outer s H E hr
  have hK : K = G.K := T.hK
  have hN : (nN_Tree_firsts).Nodup := sc_Tree_firsts.nd
  have hu := hu64 hr
  exact (ss_one (sp_retO (so_sortedSet hK rfl T.z_sorted T.z_set (se_frz (so_lcD (told_fldK hK (i := 0) T.kg_Tree T.f_Tree_0 told_var) sok_keys wk_keys (own := [("path", 1)]) rfl hN (pi_keys (pe_fld (pv 0) rfl)) (blkOk_by (N := nN_Tree_firsts) (sc := defScope s_Tree_firsts) (by decide +kernel)) (fun _ _ _ _ _ => (sg_name (i := 1) hN rfl (by first | exact .inl rfl | exact .inr rfl))) (fun _ _ _ _ _ => sts_nil) (fun _ _ _ _ _ => (se_call U_first_of (hr.mono (by first | decide | omega)) (sa_cons (se_var (i := 1)) sa_nil) pass0))))) evP_ok))
/-! Tree.__or__ -/
abbrev s_Tree___or__ : Stmt := inClass (topS 13) 8
def nN_Tree___or__ : List Str := ["self", "other", "path", "standing"]
theorem sc_Tree___or__ : FnScope nN_Tree___or__ ["self", "other"] (defScope s_Tree___or__) := ⟨rfl, rfl, rfl, by decide +kernel, rfl, by decide +kernel, by decide +kernel⟩
def mb_Tree___or__ : MS := (mSeq (mIfS (evT (mNotT (mTru (mFun (isC2 "Tree") (mCons (mV 1) (mCons (mC (.cls "Tree")) (fun _ => pure []))))))) mStuck mNil) (mSeq (mFor (mLkI keysD (mFun1 (fldD "Tree" 0) (mV 1))) (gN 2) (mIfS (evT (mTru (mFun anyD (mCons (mFz (mComp [3] (mLkI keysD (mFun1 (fldD "Tree" 0) (mV 0))) (gN 3) tYesM (mCall 2 [] mf_is_kin (mCons (mV 2) (mCons (mV 3) (fun _ => pure [])))))) (fun _ => pure []))))) mStuck mNil)) (mRet (evA (mMake "Tree" 1 [] mf_Tree_init (mCons (mFz (mMerge (mFun1 (fldD "Tree" 0) (mV 0)) (mFun1 (fldD "Tree" 0) (mV 1)))) (fun _ => pure [])))))))
def mf_Tree___or__ : List D → M D := mDef 4 mb_Tree___or__
set_option maxHeartbeats 4000000 in
theorem body_Tree___or__ {P : Program} {w : World} {K : PySem.W.Frag} {mg : Str → Option Value} {base : Heap} {G : Gx} {f : Addr} (T : Tx K mg G) (U_Tree_init : MakOk P w K mg base G 4 "Tree" 1 [] mf_Tree_init) (U_is_kin : DefOk P w K mg base G 2 "is_kin" 2 [] mf_is_kin) : BodyOk P w K mg base G "Tree.__or__" s_Tree___or__ f nN_Tree___or__ 5 mb_Tree___or__ := by
  intro cdv A outer s H E hr
  have hK : K = G.K := T.hK
  have hN : (nN_Tree___or__).Nodup := sc_Tree___or__.nd
  have hu := hu64 hr
  exact (ss_cons (sp_if (st_not (st_val hK (se_isC2 hK T.i_Tree T.j_Tree T.z_isinstance (sa_cons (se_var (i := 1)) (sa_cons (se_gcls T.g_Tree) sa_nil))))) evT_ok (ss_one sp_stuck) ss_nil) (ss_cons (sp_forD (told_fldK hK (i := 0) T.kg_Tree T.f_Tree_0 told_var) sok_keys wk_keys PassesOwn.never rfl (pi_keys (pe_fld (pv 1) rfl)) (sg_name (i := 2) hN rfl (by first | exact .inl rfl | exact .inr rfl)) (ss_one (sp_if (st_val hK (se_any hK rfl T.z_any (sa_cons (se_frz (so_lcD (told_fldK hK (i := 0) T.kg_Tree T.f_Tree_0 told_var) sok_keys wk_keys (own := [("standing", 3)]) rfl hN (pi_keys (pe_fld (pv 0) rfl)) (blkOk_by (N := nN_Tree___or__) (sc := defScope s_Tree___or__) (by decide +kernel)) (fun _ _ _ _ _ => (sg_name (i := 3) hN rfl (by first | exact .inl rfl | exact .inr rfl))) (fun _ _ _ _ _ => sts_nil) (fun _ _ _ _ _ => (se_call U_is_kin (hr.mono (by first | decide | omega)) (sa_cons (se_var (i := 2)) (sa_cons (se_var (i := 3)) sa_nil)) pass0)))) sa_nil))) evT_ok (ss_one sp_stuck) ss_nil))) (ss_one (sp_ret (se_make U_Tree_init (hr.mono (by first | decide | omega)) (sa_cons (se_frz (so_merge (se_fld (i := 0) T.k_Tree T.f_Tree_0 (se_var (i := 0))) (se_fld (i := 0) T.k_Tree T.f_Tree_0 (se_var (i := 1))))) sa_nil) pass0) evA_ok))))
/-! Tree.__eq__ -/
abbrev s_Tree___eq__ : Stmt := inClass (topS 13) 9
def nN_Tree___eq__ : List Str := ["self", "other"]
theorem sc_Tree___eq__ : FnScope nN_Tree___eq__ ["self", "other"] (defScope s_Tree___eq__) := ⟨rfl, rfl, rfl, by decide +kernel, rfl, by decide +kernel, by decide +kernel⟩
def mb_Tree___eq__ : MS := (mRet (evA (mAnd (mFun (isC2 "Tree") (mCons (mV 1) (mCons (mC (.cls "Tree")) (fun _ => pure [])))) (asE (mCmp eqD3 (mFun1 (fldD "Tree" 0) (mV 0)) (mFun1 (fldD "Tree" 0) (mV 1)))))))
def mf_Tree___eq__ : List D → M D := mDef 2 mb_Tree___eq__
set_option maxHeartbeats 4000000 in
theorem body_Tree___eq__ {P : Program} {w : World} {K : PySem.W.Frag} {mg : Str → Option Value} {base : Heap} {G : Gx} {f : Addr} (T : Tx K mg G)  : BodyOk P w K mg base G "Tree.__eq__" s_Tree___eq__ f nN_Tree___eq__ 0 mb_Tree___eq__ := by
  intro cdv A outer s H E hr
  have hK : K = G.K := T.hK
  have hN : (nN_Tree___eq__).Nodup := sc_Tree___eq__.nd
  have hu := hu64 hr
  exact (ss_one (sp_ret (se_and hK (se_isC2 hK T.i_Tree T.j_Tree T.z_isinstance (sa_cons (se_var (i := 1)) (sa_cons (se_gcls T.g_Tree) sa_nil))) (se_one (se_eq3 hK hu (se_fld (i := 0) T.k_Tree T.f_Tree_0 (se_var (i := 0))) (se_fld (i := 0) T.k_Tree T.f_Tree_0 (se_var (i := 1)))))) evA_ok))
/-! Tree.__len__ -/
abbrev s_Tree___len__ : Stmt := inClass (topS 13) 10
def nN_Tree___len__ : List Str := ["self"]
theorem sc_Tree___len__ : FnScope nN_Tree___len__ ["self"] (defScope s_Tree___len__) := ⟨rfl, rfl, rfl, by decide +kernel, rfl, by decide +kernel, by decide +kernel⟩
def mb_Tree___len__ : MS := (mRet (evA (mFun lenD (mCons (mFun1 (fldD "Tree" 0) (mV 0)) (fun _ => pure [])))))
def mf_Tree___len__ : List D → M D := mDef 1 mb_Tree___len__
set_option maxHeartbeats 4000000 in
theorem body_Tree___len__ {P : Program} {w : World} {K : PySem.W.Frag} {mg : Str → Option Value} {base : Heap} {G : Gx} {f : Addr} (T : Tx K mg G)  : BodyOk P w K mg base G "Tree.__len__" s_Tree___len__ f nN_Tree___len__ 0 mb_Tree___len__ := by
  intro cdv A outer s H E hr
  have hK : K = G.K := T.hK
  have hN : (nN_Tree___len__).Nodup := sc_Tree___len__.nd
  have hu := hu64 hr
  exact (ss_one (sp_ret (se_len hK T.z_len (sa_cons (se_fld (i := 0) T.k_Tree T.f_Tree_0 (se_var (i := 0))) sa_nil)) evA_ok))
/-! Tree.__contains__ -/
abbrev s_Tree___contains__ : Stmt := inClass (topS 13) 11
def nN_Tree___contains__ : List Str := ["self", "x"]
theorem sc_Tree___contains__ : FnScope nN_Tree___contains__ ["self", "x"] (defScope s_Tree___contains__) := ⟨rfl, rfl, rfl, by decide +kernel, rfl, by decide +kernel, by decide +kernel⟩
def mb_Tree___contains__ : MS := (mRet (evA (mAnd (mFun (isiC "Tree") (mCons (mV 1) (mCons (mC (.ty "str")) (fun _ => pure [])))) (asE (mCmp inD (mV 1) (mFun1 (fldD "Tree" 0) (mV 0)))))))
def mf_Tree___contains__ : List D → M D := mDef 2 mb_Tree___contains__
set_option maxHeartbeats 4000000 in
theorem body_Tree___contains__ {P : Program} {w : World} {K : PySem.W.Frag} {mg : Str → Option Value} {base : Heap} {G : Gx} {f : Addr} (T : Tx K mg G)  : BodyOk P w K mg base G "Tree.__contains__" s_Tree___contains__ f nN_Tree___contains__ 0 mb_Tree___contains__ := by
  intro cdv A outer s H E hr
  have hK : K = G.K := T.hK
  have hN : (nN_Tree___contains__).Nodup := sc_Tree___contains__.nd
  have hu := hu64 hr
  exact (ss_one (sp_ret (se_and hK (se_isiC hK T.i_Tree T.s_Tree T.z_isinstance (sa_cons (se_var (i := 1)) (sa_cons (se_ty T.z_str (by decide +kernel)) sa_nil))) (se_one (se_in hK hu (se_var (i := 1)) (se_fld (i := 0) T.k_Tree T.f_Tree_0 (se_var (i := 0)))))) evA_ok))
/-! _law_source -/
abbrev s_law_source : Stmt := topS 18
def nN_law_source : List Str := ["script", "turn", "cell"]
theorem sc_law_source : FnScope nN_law_source ["script", "turn"] (defScope s_law_source) := ⟨rfl, rfl, rfl, by decide +kernel, rfl, by decide +kernel, by decide +kernel⟩
def mb_law_source : MS := (mSeq (mSet (gN 2) (evA (mIf (mCmp ltD (mV 1) (mFun lenD (mCons (mV 0) (fun _ => pure [])))) (mOp subD (mV 0) (mV 1)) (mOp addD (mOp mulI (mC (.int 11)) (mV 1)) (mC (.int 3)))))) (mRetO (evP (mLstO (mCons (mIf (mCmp geD (mV 2) (mOp powI (mC (.int 10)) (mC (.int 18)))) (mV 2) (mC (.int 0))) (mCons (mOp modI (mFun intF (mCons (mV 2) (fun _ => pure []))) (mC (.int 2147483629))) (mCons (mC (.int 0)) (fun _ => pure []))))))))
def mf_law_source : List D → M Own := mDefO 3 mb_law_source
set_option maxHeartbeats 4000000 in
theorem body_law_source {P : Program} {w : World} {K : PySem.W.Frag} {mg : Str → Option Value} {base : Heap} {G : Gx} {f : Addr} (T : Tx K mg G)  : BodyOk P w K mg base G "_law_source" s_law_source f nN_law_source 0 mb_law_source := by
  intro cdv A outer s H E hr
  have hK : K = G.K := T.hK
  have hN : (nN_law_source).Nodup := sc_law_source.nd
  have hu := hu64 hr
  exact (ss_cons (sp_set (i := 2) (se_if (st_lt (se_var (i := 1)) (se_len hK T.z_len (sa_cons (se_var (i := 0)) sa_nil))) (se_sub_ix hK hu (se_var (i := 0)) (se_var (i := 1))) (se_add hK (se_mul se_int (se_var (i := 1))) se_int)) evA_ok hN rfl (by first | exact .inl rfl | exact .inr rfl)) (ss_one (sp_retO (so_lst (sa_cons (se_if (st_ge (se_var (i := 2)) (se_pow se_int se_int)) (se_var (i := 2)) se_int) (sa_cons (se_mod (se_int1 T.z_int (sa_cons (se_var (i := 2)) sa_nil)) se_int) (sa_cons se_int sa_nil)))) evP_ok)))
/-! _law_draw -/
abbrev s_law_draw : Stmt := topS 19
def nN_law_draw : List Str := ["draws", "many", "digit"]
theorem sc_law_draw : FnScope nN_law_draw ["draws", "many"] (defScope s_law_draw) := ⟨rfl, rfl, rfl, by decide +kernel, rfl, by decide +kernel, by decide +kernel⟩
def mb_law_draw : MS := (mSeq (mIfS (evT (mCmp gtD (mSrcGet 0 0) (mC (.int 0)))) (mSeq (mSet (gN 2) (evA (mOp modI (mFun intF (mCons (mSrcGet 0 0) (fun _ => pure []))) (mV 1)))) (mSeq (mSrcSet 0 0 (evA (mOp fdivI (mSrcGet 0 0) (mV 1)))) (mRet (evA (mV 2))))) mNil) (mSeq (mSrcSet 0 2 (evA (mOp addD (mSrcGet 0 2) (mC (.int 1))))) (mSeq (mSrcSet 0 1 (evA (mOp modI (mFun intF (mCons (mOp addD (mOp addD (mOp mulI (mSrcGet 0 1) (mC (.int 40692))) (mOp mulI (mSrcGet 0 2) (mC (.int 12211)))) (mC (.int 6007))) (fun _ => pure []))) (mC (.int 2147483629))))) (mRet (evA (mOp modI (mFun intF (mCons (mOp addD (mOp fdivI (mSrcGet 0 1) (mC (.int 8192))) (mSrcGet 0 1)) (fun _ => pure []))) (mV 1)))))))
def mf_law_draw : List D → M D := mDef 3 mb_law_draw
set_option maxHeartbeats 4000000 in
theorem body_law_draw {P : Program} {w : World} {K : PySem.W.Frag} {mg : Str → Option Value} {base : Heap} {G : Gx} {f : Addr} (T : Tx K mg G)  : BodyOk P w K mg base G "_law_draw" s_law_draw f nN_law_draw 0 mb_law_draw := by
  intro cdv A outer s H E hr
  have hK : K = G.K := T.hK
  have hN : (nN_law_draw).Nodup := sc_law_draw.nd
  have hu := hu64 hr
  exact (ss_cons (sp_if (st_gt (se_src hK (pv 0) pe_int) se_int) evT_ok (ss_cons (sp_set (i := 2) (se_mod (se_int1 T.z_int (sa_cons (se_src hK (pv 0) pe_int) sa_nil)) (se_var (i := 1))) evA_ok hN rfl (by first | exact .inl rfl | exact .inr rfl)) (ss_cons (sp_srcset (pv 0) pe_int (se_fdiv (se_src hK (pv 0) pe_int) (se_var (i := 1))) evA_ok) (ss_one (sp_ret (se_var (i := 2)) evA_ok)))) ss_nil) (ss_cons (sp_srcset (pv 0) pe_int (se_add hK (se_src hK (pv 0) pe_int) se_int) evA_ok) (ss_cons (sp_srcset (pv 0) pe_int (se_mod (se_int1 T.z_int (sa_cons (se_add hK (se_add hK (se_mul (se_src hK (pv 0) pe_int) se_int) (se_mul (se_src hK (pv 0) pe_int) se_int)) se_int) sa_nil)) se_int) evA_ok) (ss_one (sp_ret (se_mod (se_int1 T.z_int (sa_cons (se_add hK (se_fdiv (se_src hK (pv 0) pe_int) se_int) (se_src hK (pv 0) pe_int)) sa_nil)) (se_var (i := 1))) evA_ok)))))
/-! _law_pick -/
abbrev s_law_pick : Stmt := topS 20
def nN_law_pick : List Str := ["draws", "things"]
theorem sc_law_pick : FnScope nN_law_pick ["draws", "things"] (defScope s_law_pick) := ⟨rfl, rfl, rfl, by decide +kernel, rfl, by decide +kernel, by decide +kernel⟩
def mb_law_pick : MS := (mRet (evA (mOp subD (mV 1) (mCall 2 [] mf_law_draw (mCons (mV 0) (mCons (mFun lenD (mCons (mV 1) (fun _ => pure []))) (fun _ => pure [])))))))
def mf_law_pick : List D → M D := mDef 2 mb_law_pick
set_option maxHeartbeats 4000000 in
theorem body_law_pick {P : Program} {w : World} {K : PySem.W.Frag} {mg : Str → Option Value} {base : Heap} {G : Gx} {f : Addr} (T : Tx K mg G) (U_law_draw : DefOk P w K mg base G 1 "_law_draw" 2 [] mf_law_draw) : BodyOk P w K mg base G "_law_pick" s_law_pick f nN_law_pick 1 mb_law_pick := by
  intro cdv A outer s H E hr
  have hK : K = G.K := T.hK
  have hN : (nN_law_pick).Nodup := sc_law_pick.nd
  have hu := hu64 hr
  exact (ss_one (sp_ret (se_sub_ix hK hu (se_var (i := 1)) (se_call U_law_draw (hr.mono (by first | decide | omega)) (sa_cons (se_var (i := 0)) (sa_cons (se_len hK T.z_len (sa_cons (se_var (i := 1)) sa_nil)) sa_nil)) pass0)) evA_ok))
/-! _law_same -/
abbrev s_law_same : Stmt := topS 21
def nN_law_same : List Str := ["found", "due", "one", "other"]
theorem sc_law_same : FnScope nN_law_same ["found", "due"] (defScope s_law_same) := ⟨rfl, rfl, rfl, by decide +kernel, rfl, by decide +kernel, by decide +kernel⟩
def mb_law_same (rc : List D → M D) : MS := (mSeq (mIfS (evT (mTru (mFun isiD (mCons (mV 1) (mCons (mTup (mCons (mC (.ty "list")) (mCons (mC (.ty "tuple")) (fun _ => pure [])))) (fun _ => pure [])))))) (mSeq (mIfS (evT (mOrT (mCmp neD3 (mFun isiD (mCons (mV 0) (mCons (mC (.ty "list")) (fun _ => pure [])))) (mFun isiD (mCons (mV 1) (mCons (mC (.ty "list")) (fun _ => pure []))))) (mCmp neD3 (mFun isiD (mCons (mV 0) (mCons (mC (.ty "tuple")) (fun _ => pure [])))) (mFun isiD (mCons (mV 1) (mCons (mC (.ty "tuple")) (fun _ => pure []))))))) (mRet (evA (mC (.bl false)))) mNil) (mRet (evA (mAnd (asE (mCmp eqD3 (mFun lenD (mCons (mV 0) (fun _ => pure []))) (mFun lenD (mCons (mV 1) (fun _ => pure []))))) (mFun allD (mCons (mFz (mComp [2, 3] (mFunI zipF (mCons (mV 0) (mCons (mV 1) (fun _ => pure [])))) (gT 2 (gsC (gN 2) (gsC (gN 3) gs0))) tYesM (mCall 2 [] rc (mCons (mV 2) (mCons (mV 3) (fun _ => pure [])))))) (fun _ => pure []))))))) mNil) (mSeq (mIfS (evT (mTru (mFun isiD (mCons (mV 1) (mCons (mC (.ty "int")) (fun _ => pure [])))))) (mRet (evA (mAnd (mFun isiD (mCons (mV 0) (mCons (mC (.ty "int")) (fun _ => pure [])))) (mAnd (asE (mCmp eqD3 (mFun isiD (mCons (mV 0) (mCons (mC (.ty "bool")) (fun _ => pure [])))) (mFun isiD (mCons (mV 1) (mCons (mC (.ty "bool")) (fun _ => pure [])))))) (asE (mCmp eqD3 (mV 0) (mV 1))))))) mNil) (mRet (evA (mAnd (mNot (mFun isiD (mCons (mV 0) (mCons (mTup (mCons (mC (.ty "int")) (mCons (mC (.ty "list")) (mCons (mC (.ty "tuple")) (fun _ => pure []))))) (fun _ => pure []))))) (asE (mCmp eqD3 (mV 0) (mV 1))))))))
def mf_law_same (rc : List D → M D) : List D → M D := mDef 4 (mb_law_same rc)
def mr_law_same : Nat → List D → M D
  | 0 => mNone
  | n + 1 => mf_law_same (mr_law_same n)
set_option maxHeartbeats 4000000 in
theorem body_law_same (k : Nat) {rc : List D → M D} {P : Program} {w : World} {K : PySem.W.Frag} {mg : Str → Option Value} {base : Heap} {G : Gx} {f : Addr} (T : Tx K mg G) (U_law_same : DefOk P w K mg base G k "_law_same" 2 [] rc) : BodyOk P w K mg base G "_law_same" s_law_same f nN_law_same k (mb_law_same rc) := by
  intro cdv A outer s H E hr
  have hK : K = G.K := T.hK
  have hN : (nN_law_same).Nodup := sc_law_same.nd
  have hu := hu64 hr
  exact (ss_cons (sp_if (st_val hK (se_isi hK T.z_isinstance (sa_cons (se_var (i := 1)) (sa_cons (se_tup (sa_cons (se_ty T.z_list (by decide +kernel)) (sa_cons (se_ty T.z_tuple (by decide +kernel)) sa_nil))) sa_nil)))) evT_ok (ss_cons (sp_if (PW.pt (sw_or (st_ne3 hK hu (se_isi hK T.z_isinstance (sa_cons (se_var (i := 0)) (sa_cons (se_ty T.z_list (by decide +kernel)) sa_nil))) (se_isi hK T.z_isinstance (sa_cons (se_var (i := 1)) (sa_cons (se_ty T.z_list (by decide +kernel)) sa_nil)))) (sw_or1 (st_ne3 hK hu (se_isi hK T.z_isinstance (sa_cons (se_var (i := 0)) (sa_cons (se_ty T.z_tuple (by decide +kernel)) sa_nil))) (se_isi hK T.z_isinstance (sa_cons (se_var (i := 1)) (sa_cons (se_ty T.z_tuple (by decide +kernel)) sa_nil))))))) evT_ok (ss_one (sp_ret se_bl evA_ok)) ss_nil) (ss_one (sp_ret (se_and hK (se_eq3 hK hu (se_len hK T.z_len (sa_cons (se_var (i := 0)) sa_nil)) (se_len hK T.z_len (sa_cons (se_var (i := 1)) sa_nil))) (se_one (se_all hK rfl T.z_all (sa_cons (se_frz (so_lc (own := [("one", 2), ("other", 3)]) rfl hN (si_zip hK T.z_zip (sa_cons (se_var (i := 0)) (sa_cons (se_var (i := 1)) sa_nil))) (blkOk_by (N := nN_law_same) (sc := defScope s_law_same) (by decide +kernel)) (fun _ _ _ _ _ => (sg_tup (n := 2) hK rfl (sgs_cons (sg_name (i := 2) hN rfl (by first | exact .inl rfl | exact .inr rfl)) (sgs_cons (sg_name (i := 3) hN rfl (by first | exact .inl rfl | exact .inr rfl)) sgs_nil)))) (fun _ _ _ _ _ => sts_nil) (fun _ _ _ _ _ => (se_call U_law_same (hr.mono (by first | decide | omega)) (sa_cons (se_var (i := 2)) (sa_cons (se_var (i := 3)) sa_nil)) pass0)))) sa_nil)))) evA_ok))) ss_nil) (ss_cons (sp_if (st_val hK (se_isi hK T.z_isinstance (sa_cons (se_var (i := 1)) (sa_cons (se_ty T.z_int (by decide +kernel)) sa_nil)))) evT_ok (ss_one (sp_ret (se_and hK (se_isi hK T.z_isinstance (sa_cons (se_var (i := 0)) (sa_cons (se_ty T.z_int (by decide +kernel)) sa_nil))) (se_and hK (se_eq3 hK hu (se_isi hK T.z_isinstance (sa_cons (se_var (i := 0)) (sa_cons (se_ty T.z_bool (by decide +kernel)) sa_nil))) (se_isi hK T.z_isinstance (sa_cons (se_var (i := 1)) (sa_cons (se_ty T.z_bool (by decide +kernel)) sa_nil)))) (se_one (se_eq3 hK hu (se_var (i := 0)) (se_var (i := 1)))))) evA_ok)) ss_nil) (ss_one (sp_ret (se_and hK (se_not hK (se_isi hK T.z_isinstance (sa_cons (se_var (i := 0)) (sa_cons (se_tup (sa_cons (se_ty T.z_int (by decide +kernel)) (sa_cons (se_ty T.z_list (by decide +kernel)) (sa_cons (se_ty T.z_tuple (by decide +kernel)) sa_nil)))) sa_nil)))) (se_one (se_eq3 hK hu (se_var (i := 0)) (se_var (i := 1))))) evA_ok))))
/-! _law_is_beneath -/
abbrev s_law_is_beneath : Stmt := topS 22
def nN_law_is_beneath : List Str := ["path", "other"]
theorem sc_law_is_beneath : FnScope nN_law_is_beneath ["path", "other"] (defScope s_law_is_beneath) := ⟨rfl, rfl, rfl, by decide +kernel, rfl, by decide +kernel, by decide +kernel⟩
def mb_law_is_beneath : MS := (mRet (evA (asE (mCmp eqD3 (mSl (mV 0) mNo (mPart (mOp addD (mFun lenD (mCons (mV 1) (fun _ => pure []))) (mC (.int 1))))) (mOp addD (mV 1) (mC (.str "/")))))))
def mf_law_is_beneath : List D → M D := mDef 2 mb_law_is_beneath
set_option maxHeartbeats 4000000 in
theorem body_law_is_beneath {P : Program} {w : World} {K : PySem.W.Frag} {mg : Str → Option Value} {base : Heap} {G : Gx} {f : Addr} (T : Tx K mg G)  : BodyOk P w K mg base G "_law_is_beneath" s_law_is_beneath f nN_law_is_beneath 0 mb_law_is_beneath := by
  intro cdv A outer s H E hr
  have hK : K = G.K := T.hK
  have hN : (nN_law_is_beneath).Nodup := sc_law_is_beneath.nd
  have hu := hu64 hr
  exact (ss_one (sp_ret (se_eq3 hK hu (se_slice hK (se_var (i := 0)) so_none (so_some (se_add hK (se_len hK T.z_len (sa_cons (se_var (i := 1)) sa_nil)) se_int))) (se_add hK (se_var (i := 1)) se_str)) evA_ok))
/-! _law_has_room -/
abbrev s_law_has_room : Stmt := topS 23
def nN_law_has_room : List Str := ["files", "path", "other"]
theorem sc_law_has_room : FnScope nN_law_has_room ["files", "path"] (defScope s_law_has_room) := ⟨rfl, rfl, rfl, by decide +kernel, rfl, by decide +kernel, by decide +kernel⟩
def mb_law_has_room : MS := (mRet (evA (mNot (mFun anyD (mCons (mFz (mComp [2] (mLkI keysD (mV 0)) (gN 2) tYesM (mOr (mCall 2 [] mf_law_is_beneath (mCons (mV 1) (mCons (mV 2) (fun _ => pure [])))) (mCall 2 [] mf_law_is_beneath (mCons (mV 2) (mCons (mV 1) (fun _ => pure []))))))) (fun _ => pure []))))))
def mf_law_has_room : List D → M D := mDef 3 mb_law_has_room
set_option maxHeartbeats 4000000 in
theorem body_law_has_room {P : Program} {w : World} {K : PySem.W.Frag} {mg : Str → Option Value} {base : Heap} {G : Gx} {f : Addr} (T : Tx K mg G) (U_law_is_beneath : DefOk P w K mg base G 1 "_law_is_beneath" 2 [] mf_law_is_beneath) : BodyOk P w K mg base G "_law_has_room" s_law_has_room f nN_law_has_room 1 mb_law_has_room := by
  intro cdv A outer s H E hr
  have hK : K = G.K := T.hK
  have hN : (nN_law_has_room).Nodup := sc_law_has_room.nd
  have hu := hu64 hr
  exact (ss_one (sp_ret (se_not hK (se_any hK rfl T.z_any (sa_cons (se_frz (so_lcD told_var sok_keys wk_keys (own := [("other", 2)]) rfl hN (pi_keys (pv 0)) (blkOk_by (N := nN_law_has_room) (sc := defScope s_law_has_room) (by decide +kernel)) (fun _ _ _ _ _ => (sg_name (i := 2) hN rfl (by first | exact .inl rfl | exact .inr rfl))) (fun _ _ _ _ _ => sts_nil) (fun _ _ _ _ _ => (se_or hK (se_call U_law_is_beneath (hr.mono (by first | decide | omega)) (sa_cons (se_var (i := 1)) (sa_cons (se_var (i := 2)) sa_nil)) pass0) (se_one (se_call U_law_is_beneath (hr.mono (by first | decide | omega)) (sa_cons (se_var (i := 2)) (sa_cons (se_var (i := 1)) sa_nil)) pass0)))))) sa_nil))) evA_ok))
/-! _law_some_path -/
abbrev s_law_some_path : Stmt := topS 24
def nN_law_some_path : List Str := ["draws", "most", "sign", "names", "k"]
theorem sc_law_some_path : FnScope nN_law_some_path ["draws", "most"] (defScope s_law_some_path) := ⟨rfl, rfl, rfl, by decide +kernel, rfl, by decide +kernel, by decide +kernel⟩
def mb_law_some_path : MS := (mSeq (mSet (gN 2) (evA (mCall 2 [] mf_law_pick (mCons (mV 0) (mCons (mFz (mFunO listO3 (mCons (mC (.str "abcdefghijklmnopqrstuvwxyz0123456789")) (fun _ => pure [])))) (fun _ => pure [])))))) (mSeq (mSet (gN 3) (evA (mFz (mComp [4] (mFunI rngF1 (mCons (mOp addD (mC (.int 1)) (mCall 2 [] mf_law_draw (mCons (mV 0) (mCons (mV 1) (fun _ => pure []))))) (fun _ => pure []))) (gN 4) tYesM (mCall 2 [] mf_law_pick (mCons (mV 0) (mCons (mLst (mCons (mC (.str "a")) (mCons (mC (.str "b")) (mCons (mC (.str "c")) (mCons (mC (.str "c1")) (mCons (mC (.str "0")) (mCons (mV 2) (fun _ => pure [])))))))) (fun _ => pure [])))))))) (mRet (evA (mOp joinD (mC (.str "/")) (mV 3))))))
def mf_law_some_path : List D → M D := mDef 5 mb_law_some_path
set_option maxHeartbeats 4000000 in
theorem body_law_some_path {P : Program} {w : World} {K : PySem.W.Frag} {mg : Str → Option Value} {base : Heap} {G : Gx} {f : Addr} (T : Tx K mg G) (U_law_pick : DefOk P w K mg base G 2 "_law_pick" 2 [] mf_law_pick) (U_law_draw : DefOk P w K mg base G 1 "_law_draw" 2 [] mf_law_draw) : BodyOk P w K mg base G "_law_some_path" s_law_some_path f nN_law_some_path 2 mb_law_some_path := by
  intro cdv A outer s H E hr
  have hK : K = G.K := T.hK
  have hN : (nN_law_some_path).Nodup := sc_law_some_path.nd
  have hu := hu64 hr
  exact (ss_cons (sp_set (i := 2) (se_call U_law_pick (hr.mono (by first | decide | omega)) (sa_cons (se_var (i := 0)) (sa_cons (se_frz (so_list3 hK rfl T.z_list (sa_cons se_str sa_nil))) sa_nil)) pass0) evA_ok hN rfl (by first | exact .inl rfl | exact .inr rfl)) (ss_cons (sp_lcS (i := 3) (own := [("k", 4)]) rfl hN rfl rfl (sw_true rfl rfl rfl (by decide +kernel)) (si_range1 T.z_range (sa_cons (se_add hK se_int (se_call U_law_draw (hr.mono (by first | decide | omega)) (sa_cons (se_var (i := 0)) (sa_cons (se_var (i := 1)) sa_nil)) pass0)) sa_nil)) (blkOk_by (N := nN_law_some_path) (sc := defScope s_law_some_path) (by decide +kernel)) (fun _ _ _ _ _ => (sg_name (i := 4) hN rfl (by first | exact .inl rfl | exact .inr rfl))) (fun _ _ _ _ _ => sts_nil) (fun _ _ _ _ _ => (se_call U_law_pick (hr.mono (by first | decide | omega)) (sa_cons (se_var (i := 0)) (sa_cons (se_lst (sa_cons se_str (sa_cons se_str (sa_cons se_str (sa_cons se_str (sa_cons se_str (sa_cons (se_var (i := 2)) sa_nil))))))) sa_nil)) pass0))) (ss_one (sp_ret (se_join hK se_str (se_var (i := 3))) evA_ok))))
/-! _law_some_files -/
abbrev s_law_some_files : Stmt := topS 25
def nN_law_some_files : List Str := ["draws", "many", "found", "k", "path"]
theorem sc_law_some_files : FnScope nN_law_some_files ["draws", "many"] (defScope s_law_some_files) := ⟨rfl, rfl, rfl, by decide +kernel, rfl, by decide +kernel, by decide +kernel⟩
def mb_law_some_files : MS := (mSeq (mNew 2 (evP (fun _ => pure (.dct [])))) (mSeq (mFor (mFunI rngF1 (mCons (mV 1) (fun _ => pure []))) (gN 3) (mSeq (mSet (gN 4) (evA (mCall 2 [] mf_law_some_path (mCons (mV 0) (mCons (mC (.int 3)) (fun _ => pure [])))))) (mIfS (evT (mTru (mCall 2 [] mf_law_has_room (mCons (mV 2) (mCons (mV 4) (fun _ => pure [])))))) (mPut 2 (evA (mV 4)) (evA (mCall 2 [] mf_law_pick (mCons (mV 0) (mCons (mLst (mCons (mC (.str "")) (mCons (mC (.str "x")) (mCons (mC (.str "x y\n")) (fun _ => pure []))))) (fun _ => pure [])))))) mNil))) (mRetL 2)))
def mf_law_some_files : List D → M Own := mDefO 5 mb_law_some_files
set_option maxHeartbeats 4000000 in
theorem body_law_some_files {P : Program} {w : World} {K : PySem.W.Frag} {mg : Str → Option Value} {base : Heap} {G : Gx} {f : Addr} (T : Tx K mg G) (U_law_some_path : DefOk P w K mg base G 3 "_law_some_path" 2 [] mf_law_some_path) (U_law_has_room : DefOk P w K mg base G 2 "_law_has_room" 2 [] mf_law_has_room) (U_law_pick : DefOk P w K mg base G 2 "_law_pick" 2 [] mf_law_pick) : BodyOk P w K mg base G "_law_some_files" s_law_some_files f nN_law_some_files 3 mb_law_some_files := by
  intro cdv A outer s H E hr
  have hK : K = G.K := T.hK
  have hN : (nN_law_some_files).Nodup := sc_law_some_files.nd
  have hu := hu64 hr
  exact (ss_cons (sp_newP (i := 2) so_dict0 evP_ok hN rfl (by first | exact .inl rfl | exact .inr rfl)) (ss_cons (sp_for PassesOwn.never rfl (si_range1 T.z_range (sa_cons (se_var (i := 1)) sa_nil)) (sg_name (i := 3) hN rfl (by first | exact .inl rfl | exact .inr rfl)) (ss_cons (sp_set (i := 4) (se_call U_law_some_path (hr.mono (by first | decide | omega)) (sa_cons (se_var (i := 0)) (sa_cons se_int sa_nil)) pass0) evA_ok hN rfl (by first | exact .inl rfl | exact .inr rfl)) (ss_one (sp_if (st_val hK (se_call U_law_has_room (hr.mono (by first | decide | omega)) (sa_cons (se_var (i := 2)) (sa_cons (se_var (i := 4)) sa_nil)) pass0)) evT_ok (ss_one (sp_dput (i := 2) hu (pv 2) (se_var (i := 4)) evA_ok (se_call U_law_pick (hr.mono (by first | decide | omega)) (sa_cons (se_var (i := 0)) (sa_cons (se_lst (sa_cons se_str (sa_cons se_str (sa_cons se_str sa_nil)))) sa_nil)) pass0) evA_ok)) ss_nil)))) (ss_one (sp_retL (i := 2) (pv 2)))))
/-! _law_sorted -/
abbrev s_law_sorted : Stmt := topS 26
def nN_law_sorted : List Str := ["files", "path"]
theorem sc_law_sorted : FnScope nN_law_sorted ["files"] (defScope s_law_sorted) := ⟨rfl, rfl, rfl, by decide +kernel, rfl, by decide +kernel, by decide +kernel⟩
def mb_law_sorted : MS := (mRetO (evP (mFunO dictO2 (mCons (mFz (mComp [1] (mSeqI (mFz (mFunO sortO (mCons (mV 0) (fun _ => pure []))))) (gN 1) tYesM (mTup (mCons (mV 1) (mCons (mOp subD (mV 0) (mV 1)) (fun _ => pure [])))))) (fun _ => pure [])))))
def mf_law_sorted : List D → M Own := mDefO 2 mb_law_sorted
set_option maxHeartbeats 4000000 in
theorem body_law_sorted {P : Program} {w : World} {K : PySem.W.Frag} {mg : Str → Option Value} {base : Heap} {G : Gx} {f : Addr} (T : Tx K mg G)  : BodyOk P w K mg base G "_law_sorted" s_law_sorted f nN_law_sorted 0 mb_law_sorted := by
  intro cdv A outer s H E hr
  have hK : K = G.K := T.hK
  have hN : (nN_law_sorted).Nodup := sc_law_sorted.nd
  have hu := hu64 hr
  exact (ss_one (sp_retO (so_dict2 hK rfl T.z_dict (sa_cons (se_frz (so_lc (own := [("path", 1)]) rfl hN (si_seq hK (se_frz (so_sorted hK rfl T.z_sorted (sa_cons (se_var (i := 0)) sa_nil)))) (blkOk_by (N := nN_law_sorted) (sc := defScope s_law_sorted) (by decide +kernel)) (fun _ _ _ _ _ => (sg_name (i := 1) hN rfl (by first | exact .inl rfl | exact .inr rfl))) (fun _ _ _ _ _ => sts_nil) (fun _ _ _ _ _ => (se_tup (sa_cons (se_var (i := 1)) (sa_cons (se_sub_ix hK hu (se_var (i := 0)) (se_var (i := 1))) sa_nil)))))) sa_nil)) evP_ok))
/-! _law_part -/
abbrev s_law_part : Stmt := topS 27
def nN_law_part : List Str := ["files", "path", "other"]
theorem sc_law_part : FnScope nN_law_part ["files", "path"] (defScope s_law_part) := ⟨rfl, rfl, rfl, by decide +kernel, rfl, by decide +kernel, by decide +kernel⟩
def mb_law_part : MS := (mRetO (evP (mFunO dictO2 (mCons (mFz (mComp [2] (mLkI keysD (mV 0)) (gN 2) (mTru (mCall 2 [] mf_law_is_beneath (mCons (mV 2) (mCons (mV 1) (fun _ => pure []))))) (mTup (mCons (mSl (mV 2) (mPart (mOp addD (mFun lenD (mCons (mV 1) (fun _ => pure []))) (mC (.int 1)))) mNo) (mCons (mOp subD (mV 0) (mV 2)) (fun _ => pure [])))))) (fun _ => pure [])))))
def mf_law_part : List D → M Own := mDefO 3 mb_law_part
set_option maxHeartbeats 4000000 in
theorem body_law_part {P : Program} {w : World} {K : PySem.W.Frag} {mg : Str → Option Value} {base : Heap} {G : Gx} {f : Addr} (T : Tx K mg G) (U_law_is_beneath : DefOk P w K mg base G 1 "_law_is_beneath" 2 [] mf_law_is_beneath) : BodyOk P w K mg base G "_law_part" s_law_part f nN_law_part 1 mb_law_part := by
  intro cdv A outer s H E hr
  have hK : K = G.K := T.hK
  have hN : (nN_law_part).Nodup := sc_law_part.nd
  have hu := hu64 hr
  exact (ss_one (sp_retO (so_dict2 hK rfl T.z_dict (sa_cons (se_frz (so_lcD told_var sok_keys wk_keys (own := [("other", 2)]) rfl hN (pi_keys (pv 0)) (blkOk_by (N := nN_law_part) (sc := defScope s_law_part) (by decide +kernel)) (fun _ _ _ _ _ => (sg_name (i := 2) hN rfl (by first | exact .inl rfl | exact .inr rfl))) (fun _ _ _ _ _ => (sts_one (st_val hK (se_call U_law_is_beneath (hr.mono (by first | decide | omega)) (sa_cons (se_var (i := 2)) (sa_cons (se_var (i := 1)) sa_nil)) pass0)))) (fun _ _ _ _ _ => (se_tup (sa_cons (se_slice hK (se_var (i := 2)) (so_some (se_add hK (se_len hK T.z_len (sa_cons (se_var (i := 1)) sa_nil)) se_int)) so_none) (sa_cons (se_sub_ix hK hu (se_var (i := 0)) (se_var (i := 2))) sa_nil)))))) sa_nil)) evP_ok))
/-! _law_is_told -/
abbrev s_law_is_told : Stmt := topS 28
def nN_law_is_told : List Str := ["tree", "files", "heard", "firsts", "path"]
theorem sc_law_is_told : FnScope nN_law_is_told ["tree", "files"] (defScope s_law_is_told) := ⟨rfl, rfl, rfl, by decide +kernel, rfl, by decide +kernel, by decide +kernel⟩
def mb_law_is_told : MS := (mSeq (mNew 2 (evP (mMethO "Tree" 1 [] mf_Tree_files (mV 0) (fun _ => pure [])))) (mSeq (mIfS (evT (mOrT (mNotT (mTru (mFun isiD (mCons (mV 2) (mCons (mC (.ty "dict")) (fun _ => pure [])))))) (mNotT (mTru (mCall 2 [] (mr_law_same 3) (mCons (mFun1 itF (mV 2)) (mCons (mFun1 itF (mFz (mCallO 1 [] mf_law_sorted (mCons (mV 1) (fun _ => pure []))))) (fun _ => pure [])))))))) (mRet (evA (mC (.bl false)))) mNil) (mSeq (mSet (gN 3) (evA (mFz (mFunO sortSO (mCons (mFz (mComp [4] (mLkI keysD (mV 1)) (gN 4) tYesM (mOp subD (mOp splitD (mV 4) (mC (.str "/"))) (mC (.int 0))))) fun _ => pure []))))) (mSeq (mIfS (evT (mNotT (mTru (mCall 2 [] (mr_law_same 3) (mCons (mLst (mCons (mOwnLen "Tree" mf_Tree___len__ (mV 0)) (mCons (mFz (mMethO "Tree" 1 [] mf_Tree_firsts (mV 0) (fun _ => pure []))) (fun _ => pure [])))) (mCons (mLst (mCons (mFun lenD (mCons (mV 1) (fun _ => pure []))) (mCons (mV 3) (fun _ => pure [])))) (fun _ => pure []))))))) (mRet (evA (mC (.bl false)))) mNil) (mSeq (mClr 2) (mSeq (mAppF (evP (mMethO "Tree" 1 [] mf_Tree_firsts (mV 0) (fun _ => pure []))) (evA (mC (.str "more")))) (mRet (evA (asE (mCmp eqD3 (mFz (mMethO "Tree" 1 [] mf_Tree_files (mV 0) (fun _ => pure []))) (mV 1)))))))))))
def mf_law_is_told : List D → M D := mDef 5 mb_law_is_told
set_option maxHeartbeats 4000000 in
theorem body_law_is_told {P : Program} {w : World} {K : PySem.W.Frag} {mg : Str → Option Value} {base : Heap} {G : Gx} {f : Addr} (T : Tx K mg G) (U_Tree_files : MetOkO P w K mg base G 1 "Tree" "files" 1 [] mf_Tree_files) (U_law_same : DefOk P w K mg base G 3 "_law_same" 2 [] (mr_law_same 3)) (U_Tree_firsts : MetOkO P w K mg base G 2 "Tree" "firsts" 1 [] mf_Tree_firsts) (U_law_sorted : DefOkO P w K mg base G 1 "_law_sorted" 1 [] mf_law_sorted) (U_Tree___len__ : MetOk P w K mg base G 1 "Tree" "__len__" 1 [] mf_Tree___len__) : BodyOk P w K mg base G "_law_is_told" s_law_is_told f nN_law_is_told 3 mb_law_is_told := by
  intro cdv A outer s H E hr
  have hK : K = G.K := T.hK
  have hN : (nN_law_is_told).Nodup := sc_law_is_told.nd
  have hu := hu64 hr
  exact (ss_cons (sp_newP (i := 2) (so_meth0 T.k_Tree U_Tree_files (hr.mono (by first | decide | omega)) (se_var (i := 0))  pass0) evP_ok hN rfl (by first | exact .inl rfl | exact .inr rfl)) (ss_cons (sp_if (PW.pt (sw_or (st_not (st_val hK (se_isi hK T.z_isinstance (sa_cons (se_var (i := 2)) (sa_cons (se_ty T.z_dict (by decide +kernel)) sa_nil))))) (sw_or1 (st_not (st_val hK (se_call U_law_same (hr.mono (by first | decide | omega)) (sa_cons (se_items rfl T.z_list (se_var (i := 2))) (sa_cons (se_items rfl T.z_list (se_frz (so_call U_law_sorted (hr.mono (by first | decide | omega)) (sa_cons (se_var (i := 1)) sa_nil) pass0))) sa_nil)) pass0)))))) evT_ok (ss_one (sp_ret se_bl evA_ok)) ss_nil) (ss_cons (sp_set (i := 3) (se_frz (so_sortedSet hK rfl T.z_sorted T.z_set (se_frz (so_lcD told_var sok_keys wk_keys (own := [("path", 4)]) rfl hN (pi_keys (pv 1)) (blkOk_by (N := nN_law_is_told) (sc := defScope s_law_is_told) (by decide +kernel)) (fun _ _ _ _ _ => (sg_name (i := 4) hN rfl (by first | exact .inl rfl | exact .inr rfl))) (fun _ _ _ _ _ => sts_nil) (fun _ _ _ _ _ => (se_sub_ix hK hu (se_split (se_var (i := 4)) se_str) se_int)))))) evA_ok hN rfl (by first | exact .inl rfl | exact .inr rfl)) (ss_cons (sp_if (st_not (st_val hK (se_call U_law_same (hr.mono (by first | decide | omega)) (sa_cons (se_lst (sa_cons (se_lenI U_Tree___len__ (hr.mono (by first | decide | omega)) T.z_len (se_var (i := 0)) pass0) (sa_cons (se_frz (so_meth0 T.k_Tree U_Tree_firsts (hr.mono (by first | decide | omega)) (se_var (i := 0))  pass0)) sa_nil))) (sa_cons (se_lst (sa_cons (se_len hK T.z_len (sa_cons (se_var (i := 1)) sa_nil)) (sa_cons (se_var (i := 3)) sa_nil))) sa_nil)) pass0))) evT_ok (ss_one (sp_ret se_bl evA_ok)) ss_nil) (ss_cons (sp_dclear (i := 2) (pv 2)) (ss_cons (sp_appF (so_meth0 T.k_Tree U_Tree_firsts (hr.mono (by first | decide | omega)) (se_var (i := 0))  pass0) evP_ok se_str evA_ok) (ss_one (sp_ret (se_eq3 hK hu (se_frz (so_meth0 T.k_Tree U_Tree_files (hr.mono (by first | decide | omega)) (se_var (i := 0))  pass0)) (se_var (i := 1))) evA_ok))))))))
/-! law -/
abbrev s_law : Stmt := topS 29
def nN_law : List Str := ["script", "turn", "draws", "files", "more", "handed", "tree", "path", "rest", "both", "odd", "thing", "bent"]
theorem sc_law : FnScope nN_law ["script"] (defScope s_law) := ⟨rfl, rfl, rfl, by decide +kernel, rfl, by decide +kernel, by decide +kernel⟩
def mb_law : MS := (mSeq (mFor (mFunI rngF1 (mCons (mOp addD (mC (.int 5)) (mFun min2 (mCons (mFun lenD (mCons (mV 0) (fun _ => pure []))) (mCons (mC (.int 5)) (fun _ => pure []))))) (fun _ => pure []))) (gN 1) (mSeq (mNew 2 (evP (mCallO 2 [] mf_law_source (mCons (mV 0) (mCons (mV 1) (fun _ => pure [])))))) (mSrc 2 (mSeq (mTwo 3 4 (evRv (evA (mFz (mCallO 2 [] mf_law_some_files (mCons (mV 2) (mCons (mC (.int 7)) (fun _ => pure []))))))) (evRv (evA (mFz (mCallO 2 [] mf_law_some_files (mCons (mV 2) (mCons (mC (.int 4)) (fun _ => pure [])))))))) (mSeq (mNew 5 (evP (mFunO dictO2 (mCons (mV 3) (fun _ => pure []))))) (mSeq (mSet (gN 6) (evN (mMakeN "Tree" 1 mf_Tree_init (mCons (mV 5) (fun _ => pure []))))) (mSeq (mPut 5 (evA (mC (.str "zz"))) (evA (mC (.str "later")))) (mSeq (mIfS (evT (mOrT (mNotT (mTru (mCall 2 [] mf_law_is_told (mCons (mV 6) (mCons (mV 3) (fun _ => pure [])))))) (mOrT (mNotT (mTru (mCall 2 [] mf_law_is_told (mCons (mMake "Tree" 1 [.non] mf_Tree_init (fun _ => pure [])) (mCons (mFz (fun _ => pure (.dct []))) (fun _ => pure [])))))) (mNotT (mTru (mCall 2 [] mf_law_is_told (mCons (mMake "Tree" 1 [] mf_Tree_init (mCons (mC .non) (fun _ => pure []))) (mCons (mFz (fun _ => pure (.dct []))) (fun _ => pure []))))))))) (mRet (evA (mC (.bl false)))) mNil) (mSeq (mFor (mSeqI (mLst (mCons (mCall 2 [] mf_law_some_path (mCons (mV 2) (mCons (mC (.int 2)) (fun _ => pure [])))) (mCons (mC (.str "a")) (mCons (mC (.str "b")) (fun _ => pure [])))))) (gN 7) (mIfS (evT (mOrT (mNotT (mTru (mCall 2 [] mf_law_is_told (mCons (mMeth "Tree" 2 [] mf_Tree_part (mV 6) (mCons (mV 7) (fun _ => pure []))) (mCons (mFz (mCallO 2 [] mf_law_part (mCons (mV 3) (mCons (mV 7) (fun _ => pure []))))) (fun _ => pure [])))))) (mNotT (mTru (mCall 2 [] (mr_law_same 3) (mCons (mOwnIn "Tree" mf_Tree___contains__ (mV 7) (mV 6)) (mCons (asE (mCmp inD (mV 7) (mV 3))) (fun _ => pure [])))))))) (mRet (evA (mC (.bl false)))) mNil)) (mSeq (mSet (gN 8) (evA (mFz (mFunO dictO2 (mCons (mFz (mComp [7] (mLkI keysD (mV 4)) (gN 7) (mAndT (mCmp ninD (mV 7) (mV 3)) (mTru (mCall 2 [] mf_law_has_room (mCons (mV 3) (mCons (mV 7) (fun _ => pure [])))))) (mTup (mCons (mV 7) (mCons (mOp subD (mV 4) (mV 7)) (fun _ => pure [])))))) (fun _ => pure [])))))) (mSeq (mSet (gN 9) (evA (mFz (mFunO dictO2 (mCons (mOp addD (mFun1 itF (mV 3)) (mFun1 itF (mV 8))) (fun _ => pure [])))))) (mSeq (mIfS (evT (mOrT (mNotT (mTru (mCall 2 [] mf_law_is_told (mCons (mOwnOp "Tree" mf_Tree___or__ (mV 6) (mMake "Tree" 1 [] mf_Tree_init (mCons (mV 8) (fun _ => pure [])))) (mCons (mV 9) (fun _ => pure [])))))) (mNotT (mTru (mCall 2 [] mf_law_is_told (mCons (mV 6) (mCons (mV 3) (fun _ => pure [])))))))) (mRet (evA (mC (.bl false)))) mNil) (mSeq (mSet (gN 10) (evA (mCall 2 [] mf_law_pick (mCons (mV 2) (mCons (mLst (mCons (mC .non) (mCons (mC (.int 5)) (mCons (mC (.bl true)) (mCons (mLst (fun _ => pure [])) (mCons (mTup (mCons (mC (.str "a")) (fun _ => pure []))) (mCons (mFz (fun _ => pure (.dct []))) (mCons (mC (.str "")) (mCons (mC (.str "A")) (mCons (mV 6) (fun _ => pure []))))))))))) (fun _ => pure [])))))) (mSeq (mIfS (evT (mOrT (mCmp notB2 (mOwnIn "Tree" mf_Tree___contains__ (mV 10) (mV 6)) (mC (.bl false))) (mTru (mFun anyD (mCons (mFz (mComp [11] (mSeqI (mTup (mCons (mC .non) (mCons (mV 3) (mCons (mC (.str "a")) (mCons (mLst (fun _ => pure [])) (fun _ => pure []))))))) (gN 11) tYesM (mOwnEq "Tree" mf_Tree___eq__ (mV 6) (mV 11)))) (fun _ => pure [])))))) (mRet (evA (mC (.bl false)))) mNil) (mSeq (mIfS (evT (mOrT (mNotT (mOwnEqT "Tree" mf_Tree___eq__ (mV 6) (mMake "Tree" 1 [] mf_Tree_init (mCons (mFz (mFunO dictO2 (mCons (mFun1 revF (mFun1 itF (mV 3))) (fun _ => pure [])))) (fun _ => pure []))))) (mOwnNeT "Tree" mf_Tree___eq__ (mV 6) (mMake "Tree" 1 [] mf_Tree_init (mCons (mV 3) (fun _ => pure [])))))) (mRet (evA (mC (.bl false)))) mNil) (mSeq (mSet (gN 7) (evA (mCall 2 [] mf_law_pick (mCons (mV 2) (mCons (mOp addD (mFz (mFunO sortO (mCons (mV 3) (fun _ => pure [])))) (mLst (mCons (mC (.str "zz")) (fun _ => pure [])))) (fun _ => pure [])))))) (mSeq (mNew 12 (evP (mFunO dictO2 (mCons (mV 3) (fun _ => pure []))))) (mSeq (mPut 12 (evA (mV 7)) (evA (mC (.str "bent")))) (mFrz 12 (mIfS (evT (mOrT (mOwnEqT "Tree" mf_Tree___eq__ (mV 6) (mMake "Tree" 1 [] mf_Tree_init (mCons (mV 12) (fun _ => pure [])))) (mNotT (mOwnNeT "Tree" mf_Tree___eq__ (mV 6) (mMake "Tree" 1 [] mf_Tree_init (mCons (mV 12) (fun _ => pure []))))))) (mRet (evA (mC (.bl false)))) mNil)))))))))))))))))))) (mRet (evA (mC (.bl true)))))
def mf_law : List D → M D := mDef 13 mb_law
set_option maxHeartbeats 4000000 in
theorem body_law {P : Program} {w : World} {K : PySem.W.Frag} {mg : Str → Option Value} {base : Heap} {G : Gx} {f : Addr} (T : Tx K mg G) (U_law_source : DefOkO P w K mg base G 1 "_law_source" 2 [] mf_law_source) (U_Tree_init : MakOk P w K mg base G 4 "Tree" 1 [] mf_Tree_init) (U0_Tree_init : MakOk P w K mg base G 4 "Tree" 1 [.non] mf_Tree_init) (UN_Tree_init : MakOkN P w K mg base G 4 "Tree" 1 mf_Tree_init) (U_law_pick : DefOk P w K mg base G 2 "_law_pick" 2 [] mf_law_pick) (U_law_some_files : DefOkO P w K mg base G 4 "_law_some_files" 2 [] mf_law_some_files) (U_law_some_path : DefOk P w K mg base G 3 "_law_some_path" 2 [] mf_law_some_path) (U_law_is_told : DefOk P w K mg base G 4 "_law_is_told" 2 [] mf_law_is_told) (U_law_same : DefOk P w K mg base G 3 "_law_same" 2 [] (mr_law_same 3)) (U_Tree_part : MetOk P w K mg base G 6 "Tree" "part" 2 [] mf_Tree_part) (U_law_part : DefOkO P w K mg base G 2 "_law_part" 2 [] mf_law_part) (U_law_has_room : DefOk P w K mg base G 2 "_law_has_room" 2 [] mf_law_has_room) (U_Tree___eq__ : MetOk P w K mg base G 1 "Tree" "__eq__" 2 [] mf_Tree___eq__) (U_Tree___contains__ : MetOk P w K mg base G 1 "Tree" "__contains__" 2 [] mf_Tree___contains__) (U_Tree___or__ : MetOk P w K mg base G 6 "Tree" "__or__" 2 [] mf_Tree___or__) : BodyOk P w K mg base G "law" s_law f nN_law 6 mb_law := by
  intro cdv A outer s H E hr
  have hK : K = G.K := T.hK
  have hN : (nN_law).Nodup := sc_law.nd
  have hu := hu64 hr
  exact (ss_cons (sp_for PassesOwn.never rfl (si_range1 T.z_range (sa_cons (se_add hK se_int (se_min2 rfl T.z_min (sa_cons (se_len hK T.z_len (sa_cons (se_var (i := 0)) sa_nil)) (sa_cons se_int sa_nil)))) sa_nil)) (sg_name (i := 1) hN rfl (by first | exact .inl rfl | exact .inr rfl)) (ss_cons (sp_newP (i := 2) (so_call U_law_source (hr.mono (by first | decide | omega)) (sa_cons (se_var (i := 0)) (sa_cons (se_var (i := 1)) sa_nil)) pass0) evP_ok hN rfl (by first | exact .inl rfl | exact .inr rfl)) (ss_src (i := 2) (ss_cons (sp_two (i := 3) (j := 4) hK rfl (se_frz (so_call U_law_some_files (hr.mono (by first | decide | omega)) (sa_cons (se_var (i := 2)) (sa_cons se_int sa_nil)) pass0)) (se_frz (so_call U_law_some_files (hr.mono (by first | decide | omega)) (sa_cons (se_var (i := 2)) (sa_cons se_int sa_nil)) pass0)) (evRv_ok evA_ok) (evRv_ok evA_ok) hN rfl rfl (by first | exact .inl rfl | exact .inr rfl) (by first | exact .inl rfl | exact .inr rfl) (by decide)) (ss_cons (sp_newP (i := 5) (so_dict2 hK rfl T.z_dict (sa_cons (se_var (i := 3)) sa_nil)) evP_ok hN rfl (by first | exact .inl rfl | exact .inr rfl)) (ss_cons (sp_set (i := 6) (se_makeN UN_Tree_init (hr.mono (by first | decide | omega)) (sa_cons (se_var (i := 5)) sa_nil) pass0) evN_ok hN rfl (by first | exact .inl rfl | exact .inr rfl)) (ss_cons (sp_dput (i := 5) hu (pv 5) se_str evA_ok se_str evA_ok) (ss_cons (sp_if (PW.pt (sw_or (st_not (st_val hK (se_call U_law_is_told (hr.mono (by first | decide | omega)) (sa_cons (se_var (i := 6)) (sa_cons (se_var (i := 3)) sa_nil)) pass0))) (sw_or (st_not (st_val hK (se_call U_law_is_told (hr.mono (by first | decide | omega)) (sa_cons (se_make0 U0_Tree_init (hr.mono (by first | decide | omega)) pass0) (sa_cons (se_frz so_dict0) sa_nil)) pass0))) (sw_or1 (st_not (st_val hK (se_call U_law_is_told (hr.mono (by first | decide | omega)) (sa_cons (se_make U_Tree_init (hr.mono (by first | decide | omega)) (sa_cons se_non sa_nil) pass0) (sa_cons (se_frz so_dict0) sa_nil)) pass0))))))) evT_ok (ss_one (sp_ret se_bl evA_ok)) ss_nil) (ss_cons (sp_for PassesOwn.never rfl (si_seq hK (se_lst (sa_cons (se_call U_law_some_path (hr.mono (by first | decide | omega)) (sa_cons (se_var (i := 2)) (sa_cons se_int sa_nil)) pass0) (sa_cons se_str (sa_cons se_str sa_nil))))) (sg_name (i := 7) hN rfl (by first | exact .inl rfl | exact .inr rfl)) (ss_one (sp_if (PW.pt (sw_or (st_not (st_val hK (se_call U_law_is_told (hr.mono (by first | decide | omega)) (sa_cons (se_meth T.k_Tree U_Tree_part (hr.mono (by first | decide | omega)) (se_var (i := 6)) (sa_cons (se_var (i := 7)) sa_nil) pass0) (sa_cons (se_frz (so_call U_law_part (hr.mono (by first | decide | omega)) (sa_cons (se_var (i := 3)) (sa_cons (se_var (i := 7)) sa_nil)) pass0)) sa_nil)) pass0))) (sw_or1 (st_not (st_val hK (se_call U_law_same (hr.mono (by first | decide | omega)) (sa_cons (se_inI U_Tree___contains__ (hr.mono (by first | decide | omega)) (se_var (i := 7)) (se_var (i := 6)) pass0) (sa_cons (se_in hK hu (se_var (i := 7)) (se_var (i := 3))) sa_nil)) pass0)))))) evT_ok (ss_one (sp_ret se_bl evA_ok)) ss_nil))) (ss_cons (sp_set (i := 8) (se_frz (so_dict2 hK rfl T.z_dict (sa_cons (se_frz (so_lcD told_var sok_keys wk_keys (own := [("path", 7)]) rfl hN (pi_keys (pv 4)) (blkOk_by (N := nN_law) (sc := defScope s_law) (by decide +kernel)) (fun _ _ _ _ _ => (sg_name (i := 7) hN rfl (by first | exact .inl rfl | exact .inr rfl))) (fun _ _ _ _ _ => (sts_one (PW.pt (sw_and (st_nin hK hu (se_var (i := 7)) (se_var (i := 3))) (sw_and1 (st_val hK (se_call U_law_has_room (hr.mono (by first | decide | omega)) (sa_cons (se_var (i := 3)) (sa_cons (se_var (i := 7)) sa_nil)) pass0))))))) (fun _ _ _ _ _ => (se_tup (sa_cons (se_var (i := 7)) (sa_cons (se_sub_ix hK hu (se_var (i := 4)) (se_var (i := 7))) sa_nil)))))) sa_nil))) evA_ok hN rfl (by first | exact .inl rfl | exact .inr rfl)) (ss_cons (sp_set (i := 9) (se_frz (so_dict2 hK rfl T.z_dict (sa_cons (se_add hK (se_items rfl T.z_list (se_var (i := 3))) (se_items rfl T.z_list (se_var (i := 8)))) sa_nil))) evA_ok hN rfl (by first | exact .inl rfl | exact .inr rfl)) (ss_cons (sp_if (PW.pt (sw_or (st_not (st_val hK (se_call U_law_is_told (hr.mono (by first | decide | omega)) (sa_cons (se_opI (by decide +kernel) U_Tree___or__ T.o_Tree (hr.mono (by first | decide | omega)) (se_var (i := 6)) (se_make U_Tree_init (hr.mono (by first | decide | omega)) (sa_cons (se_var (i := 8)) sa_nil) pass0) pass0) (sa_cons (se_var (i := 9)) sa_nil)) pass0))) (sw_or1 (st_not (st_val hK (se_call U_law_is_told (hr.mono (by first | decide | omega)) (sa_cons (se_var (i := 6)) (sa_cons (se_var (i := 3)) sa_nil)) pass0)))))) evT_ok (ss_one (sp_ret se_bl evA_ok)) ss_nil) (ss_cons (sp_set (i := 10) (se_call U_law_pick (hr.mono (by first | decide | omega)) (sa_cons (se_var (i := 2)) (sa_cons (se_lst (sa_cons se_non (sa_cons se_int (sa_cons se_bl (sa_cons (se_lst sa_nil) (sa_cons (se_tup (sa_cons se_str sa_nil)) (sa_cons (se_frz so_dict0) (sa_cons se_str (sa_cons se_str (sa_cons (se_var (i := 6)) sa_nil)))))))))) sa_nil)) pass0) evA_ok hN rfl (by first | exact .inl rfl | exact .inr rfl)) (ss_cons (sp_if (PW.pt (sw_or (st_notB2 (se_inI U_Tree___contains__ (hr.mono (by first | decide | omega)) (se_var (i := 10)) (se_var (i := 6)) pass0) se_bl) (sw_or1 (st_val hK (se_any hK rfl T.z_any (sa_cons (se_frz (so_lc (own := [("thing", 11)]) rfl hN (si_seq hK (se_tup (sa_cons se_non (sa_cons (se_var (i := 3)) (sa_cons se_str (sa_cons (se_lst sa_nil) sa_nil)))))) (blkOk_by (N := nN_law) (sc := defScope s_law) (by decide +kernel)) (fun _ _ _ _ _ => (sg_name (i := 11) hN rfl (by first | exact .inl rfl | exact .inr rfl))) (fun _ _ _ _ _ => sts_nil) (fun _ _ _ _ _ => (se_eqI U_Tree___eq__ (hr.mono (by first | decide | omega)) hK (se_var (i := 6)) (se_var (i := 11)) pass0)))) sa_nil)))))) evT_ok (ss_one (sp_ret se_bl evA_ok)) ss_nil) (ss_cons (sp_if (PW.pt (sw_or (st_not (st_eqI U_Tree___eq__ (hr.mono (by first | decide | omega)) hK (se_var (i := 6)) (se_make U_Tree_init (hr.mono (by first | decide | omega)) (sa_cons (se_frz (so_dict2 hK rfl T.z_dict (sa_cons (se_rev hK (se_items rfl T.z_list (se_var (i := 3)))) sa_nil))) sa_nil) pass0) pass0)) (sw_or1 (st_neI U_Tree___eq__ T.n_Tree (hr.mono (by first | decide | omega)) hK (se_var (i := 6)) (se_make U_Tree_init (hr.mono (by first | decide | omega)) (sa_cons (se_var (i := 3)) sa_nil) pass0) pass0)))) evT_ok (ss_one (sp_ret se_bl evA_ok)) ss_nil) (ss_cons (sp_set (i := 7) (se_call U_law_pick (hr.mono (by first | decide | omega)) (sa_cons (se_var (i := 2)) (sa_cons (se_add hK (se_frz (so_sorted hK rfl T.z_sorted (sa_cons (se_var (i := 3)) sa_nil))) (se_lst (sa_cons se_str sa_nil))) sa_nil)) pass0) evA_ok hN rfl (by first | exact .inl rfl | exact .inr rfl)) (ss_cons (sp_newP (i := 12) (so_dict2 hK rfl T.z_dict (sa_cons (se_var (i := 3)) sa_nil)) evP_ok hN rfl (by first | exact .inl rfl | exact .inr rfl)) (ss_cons (sp_dput (i := 12) hu (pv 12) (se_var (i := 7)) evA_ok se_str evA_ok) (ss_frz (i := 12) (ss_one (sp_if (PW.pt (sw_or (st_eqI U_Tree___eq__ (hr.mono (by first | decide | omega)) hK (se_var (i := 6)) (se_make U_Tree_init (hr.mono (by first | decide | omega)) (sa_cons (se_var (i := 12)) sa_nil) pass0) pass0) (sw_or1 (st_not (st_neI U_Tree___eq__ T.n_Tree (hr.mono (by first | decide | omega)) hK (se_var (i := 6)) (se_make U_Tree_init (hr.mono (by first | decide | omega)) (sa_cons (se_var (i := 12)) sa_nil) pass0) pass0))))) evT_ok (ss_one (sp_ret se_bl evA_ok)) ss_nil))))))))))))))))))))) (ss_one (sp_ret se_bl evA_ok)))
end K2
set_option Elab.async false
set_option linter.all false
set_option maxRecDepth 100000
namespace K2
open PySem PySem.Spec PyProof.Rows L2 Nb RZ
theorem draw1 (a b c many : Int) (ha : 0 < a) (hm : 0 < many) (hm2 : many ≤ 1000) : mf_law_draw [.src, .int many] (some [a, b, c]) = some (.int (a.fmod many), some [a.fdiv many, b, c]) := by
  have h0 : many ≠ 0 := by omega
  have hd : CDivN a many := by unfold CDivN; omega
  simp [mf_law_draw, mDef, mb_law_draw, startD, mSeq, mIfS, evT, viewB, mCmp, mSrcGet, mC, bind, M.bind, pure, M.pure, L2.atI, ixN, opt, gtD, cmpI, ha, mSet, evA, viewA, mOp, modI, mFun, intF, mCons, mV, gN, setAllD, mSrcSet, fdivI, mRet, h0, hd]
theorem draw2 (b c many : Int) (hm : 0 < many) (hb : 0 ≤ b ∧ b < 2147483629) : ∃ d b', mf_law_draw [.src, .int many] (some [0, b, c]) = some (.int d, some [0, b', c + 1]) ∧ 0 ≤ d ∧ d < many ∧ 0 ≤ b' ∧ b' < 2147483629 := by
  have h0 : many ≠ 0 := by omega
  have m1 : CMul b 40692 := by unfold CMul; omega
  have m2 : CMul (c + 1) 12211 := by unfold CMul; omega
  have nb : 0 ≤ (b * 40692 + (c + 1) * 12211 + 6007).fmod 2147483629 ∧ (b * 40692 + (c + 1) * 12211 + 6007).fmod 2147483629 < 2147483629 := ⟨Int.fmod_nonneg_of_pos _ (by decide), Int.fmod_lt_of_pos _ (by decide)⟩
  have hd : CDivN ((b * 40692 + (c + 1) * 12211 + 6007).fmod 2147483629) 8192 := by unfold CDivN; omega
  refine ⟨(((b * 40692 + (c + 1) * 12211 + 6007).fmod 2147483629).fdiv 8192 + (b * 40692 + (c + 1) * 12211 + 6007).fmod 2147483629).fmod many, (b * 40692 + (c + 1) * 12211 + 6007).fmod 2147483629, ?_, Int.fmod_nonneg_of_pos _ hm, Int.fmod_lt_of_pos _ hm, nb.1, nb.2⟩
  simp [mf_law_draw, mDef, mb_law_draw, startD, mSeq, mIfS, evT, viewB, mCmp, mSrcGet, mC, bind, M.bind, pure, M.pure, L2.atI, ixN, opt, gtD, cmpI, mSet, evA, viewA, mOp, modI, mFun, intF, mCons, mV, gN, setAllD, mSrcSet, fdivI, mRet, h0, mNil, addD, orF, addI, mulI, m1, m2, hd]
/-- the list of draws, as the law leaves it -/
def DrawsOk (ns : List Int) : Prop := ∃ a b c, ns = [a, b, c] ∧ 0 ≤ a ∧ 0 ≤ b ∧ b < 2147483629
theorem draw (ns : List Int) (h : DrawsOk ns) (many : Int) (hm : 0 < many) (hm2 : many ≤ 1000) : ∃ d ns', mf_law_draw [.src, .int many] (some ns) = some (.int d, some ns') ∧ 0 ≤ d ∧ d < many ∧ DrawsOk ns' := by
  obtain ⟨a, b, c, rfl, ha, hb, hb2⟩ := h
  by_cases h0 : 0 < a
  · refine ⟨a.fmod many, [a.fdiv many, b, c], draw1 a b c many h0 hm hm2, Int.fmod_nonneg_of_pos _ hm, Int.fmod_lt_of_pos _ hm, _, _, _, rfl, ?_, hb, hb2⟩
    exact Int.fdiv_nonneg (by omega) (by omega)
  · have e : a = 0 := by omega
    subst e
    obtain ⟨d, b', e1, e2, e3, e4, e5⟩ := draw2 b c many hm ⟨hb, hb2⟩
    exact ⟨d, _, e1, e2, e3, _, _, _, rfl, Int.le_refl _, e4, e5⟩
/-- one of some things -/
theorem pick (ns : List Int) (h : DrawsOk ns) (ds : List D) (h1 : ds ≠ []) (h2 : ds.length ≤ 1000) : ∃ d ns', mf_law_pick [.src, .lst ds] (some ns) = some (d, some ns') ∧ d ∈ ds ∧ DrawsOk ns' := by
  have hl : 0 < ds.length := List.length_pos_iff.mpr h1
  obtain ⟨k, ns', e, k0, k1, ok⟩ := draw ns h ds.length (by omega) (by omega)
  have hk : k.toNat < ds.length := by omega
  refine ⟨ds[k.toNat], ns', ?_, List.getElem_mem hk, ok⟩
  have ei : ixN ds.length k = some k.toNat := by unfold ixN; rw [if_pos k0, if_pos k1]
  simp [mf_law_pick, mDef, mb_law_pick, startD, mRet, evA, viewA, mOp, mV, mCall, mCons, mFun, lenD, orL, lenV, bind, M.bind, pure, M.pure, opt, e, subD, orF, ixD, L2.atI, ei, List.getElem?_eq_getElem hk]
end K2
set_option Elab.async false
set_option linter.all false
set_option maxRecDepth 100000
namespace K2
open PySem PySem.Spec PyProof.Rows L2 Nb RZ
theorem source (ns : List Int) (turn : Nat) : ∃ a b c, mf_law_source [.scr ns, .int turn] none = some (.lst [.int a, .int b, .int c], none) ∧ DrawsOk [a, b, c] := by
  have hp : CPow 10 18 := by unfold CPow; decide
  have hm : CMul 11 turn := by unfold CMul; omega
  have fin : ∀ x : Int, ∃ a b c, (if (10 : Int) ^ 18 ≤ x then x else 0) = a ∧ x.fmod 2147483629 = b ∧ (0 : Int) = c ∧ DrawsOk [a, b, c] := fun x =>
    ⟨_, _, _, rfl, rfl, rfl, _, _, _, rfl, by split <;> omega, Int.fmod_nonneg_of_pos _ (by decide), Int.fmod_lt_of_pos _ (by decide)⟩
  by_cases h : turn < ns.length
  · have ei : ixN ns.length (turn : Int) = some turn := by unfold ixN; rw [if_pos (by omega), if_pos (by omega)]; simp
    obtain ⟨a, b, c, e1, e2, e3, ok⟩ := fin ns[turn]
    refine ⟨a, b, c, ?_, ok⟩
    rw [← e1, ← e2, ← e3]
    by_cases h2 : (10 : Int) ^ 18 ≤ ns[turn]
    · have h2' : (1000000000000000000 : Int) ≤ ns[turn] := by simpa using h2
      simp [mf_law_source, mDefO, mb_law_source, startD, mSeq, mSet, evA, viewA, mIf, mCmp, ltD, geD, cmpI, mV, mC, mFun, mCons, lenD, orL, lenV, bind, M.bind, pure, M.pure, opt, h, mOp, subD, orF, ixD, L2.atI, ei, List.getElem?_eq_getElem h, gN, setAllD, mRetO, evP, mLstO, powI, hp, modI, intF, h2']
    · have h2' : ¬ (1000000000000000000 : Int) ≤ ns[turn] := by simpa using h2
      simp [mf_law_source, mDefO, mb_law_source, startD, mSeq, mSet, evA, viewA, mIf, mCmp, ltD, geD, cmpI, mV, mC, mFun, mCons, lenD, orL, lenV, bind, M.bind, pure, M.pure, opt, h, mOp, subD, orF, ixD, L2.atI, ei, List.getElem?_eq_getElem h, gN, setAllD, mRetO, evP, mLstO, powI, hp, modI, intF, h2']
  · obtain ⟨a, b, c, e1, e2, e3, ok⟩ := fin (11 * turn + 3)
    refine ⟨a, b, c, ?_, ok⟩
    rw [← e1, ← e2, ← e3]
    by_cases h2 : (10 : Int) ^ 18 ≤ 11 * (turn : Int) + 3
    · have h2' : (1000000000000000000 : Int) ≤ 11 * (turn : Int) + 3 := by simpa using h2
      simp [mf_law_source, mDefO, mb_law_source, startD, mSeq, mSet, evA, viewA, mIf, mCmp, ltD, geD, cmpI, mV, mC, mFun, mCons, lenD, orL, lenV, bind, M.bind, pure, M.pure, opt, h, mOp, addD, orF, addI, mulI, hm, gN, setAllD, mRetO, evP, mLstO, powI, hp, modI, intF, h2']
    · have h2' : ¬ (1000000000000000000 : Int) ≤ 11 * (turn : Int) + 3 := by simpa using h2
      simp [mf_law_source, mDefO, mb_law_source, startD, mSeq, mSet, evA, viewA, mIf, mCmp, ltD, geD, cmpI, mV, mC, mFun, mCons, lenD, orL, lenV, bind, M.bind, pure, M.pure, opt, h, mOp, addD, orF, addI, mulI, hm, gN, setAllD, mRetO, evP, mLstO, powI, hp, modI, intF, h2']
end K2
set_option Elab.async false
set_option linter.all false
set_option maxRecDepth 100000
set_option maxHeartbeats 1000000
namespace K2
open PySem PySem.Spec PyProof.Rows L2 Nb RZ
/-! ### lists of numbers with strokes (47) between them -/
def jn : List (List Nat) → List Nat
  | [] => []
  | [x] => x
  | x :: y :: r => x ++ 47 :: jn (y :: r)
theorem jn_cons (x : List Nat) {r : List (List Nat)} (h : r ≠ []) : jn (x :: r) = x ++ 47 :: jn r := by
  match r, h with
  | y :: r, _ => rfl
theorem jn_app {a b : List (List Nat)} (ha : a ≠ []) (hb : b ≠ []) : jn (a ++ b) = jn a ++ 47 :: jn b := by
  induction a with
  | nil => exact absurd rfl ha
  | cons x a ih =>
    cases a with
    | nil => exact jn_cons x hb
    | cons y a =>
      have h := ih (by simp)
      show x ++ 47 :: jn (y :: a ++ b) = (x ++ 47 :: jn (y :: a)) ++ 47 :: jn b
      rw [h, List.append_assoc]
      rfl
/-- no stroke within -/
def Fr (a : List (List Nat)) : Prop := ∀ x ∈ a, 47 ∉ x
theorem cut_first {x y r s : List Nat} (hx : 47 ∉ x) (hy : 47 ∉ y) (h : x ++ 47 :: r = y ++ 47 :: s) : x = y ∧ r = s := by
  induction x generalizing y with
  | nil =>
    cases y with
    | nil => simp at h; exact ⟨rfl, h⟩
    | cons b y =>
      simp at h
      exact absurd (h.1 ▸ List.mem_cons_self) hy
  | cons a x ih =>
    cases y with
    | nil =>
      simp at h
      exact absurd (h.1 ▸ List.mem_cons_self) hx
    | cons b y =>
      simp only [List.cons_append, List.cons.injEq] at h
      obtain ⟨h1, h2⟩ := ih (fun z => hx (List.mem_cons_of_mem _ z)) (fun z => hy (List.mem_cons_of_mem _ z)) h.2
      exact ⟨by rw [h.1, h1], h2⟩
theorem jn_inj : ∀ {a b : List (List Nat)}, a ≠ [] → b ≠ [] → Fr a → Fr b → jn a = jn b → a = b
  | [x], [y], _, _, _, _, h => by rw [show x = y from h]
  | [x], y :: z :: r, _, _, fa, fb, h => by
    exfalso
    have h : x = y ++ 47 :: jn (z :: r) := h
    exact fa x List.mem_cons_self (by rw [h]; simp)
  | x :: z :: r, [y], _, _, fa, fb, h => by
    exfalso
    have h : x ++ 47 :: jn (z :: r) = y := h
    exact fb y List.mem_cons_self (by rw [← h]; simp)
  | x :: z :: r, y :: w :: s, _, _, fa, fb, h => by
    have h : x ++ 47 :: jn (z :: r) = y ++ 47 :: jn (w :: s) := h
    obtain ⟨h1, h2⟩ := cut_first (fa x List.mem_cons_self) (fb y List.mem_cons_self) h
    have h3 := jn_inj (by simp) (by simp) (fun u hu => fa u (List.mem_cons_of_mem _ hu)) (fun u hu => fb u (List.mem_cons_of_mem _ hu)) h2
    rw [h1, h3]
theorem jn_ex : ∀ t : List Nat, ∃ p : List (List Nat), p ≠ [] ∧ Fr p ∧ jn p = t
  | [] => ⟨[[]], by simp, fun x hx => by simp at hx; rw [hx]; simp, rfl⟩
  | c :: t => by
    obtain ⟨p, h1, h2, h3⟩ := jn_ex t
    by_cases hc : c = 47
    · refine ⟨[] :: p, by simp, fun x hx => ?_, ?_⟩
      · rcases List.mem_cons.mp hx with rfl | hx
        · simp
        · exact h2 x hx
      · rw [jn_cons _ h1, h3, hc]; rfl
    · match p, h1 with
      | x :: p, _ =>
        refine ⟨(c :: x) :: p, by simp, fun y hy => ?_, ?_⟩
        · rcases List.mem_cons.mp hy with rfl | hy
          · intro z
            rcases List.mem_cons.mp z with z | z
            · exact hc z.symm
            · exact h2 x List.mem_cons_self z
          · exact h2 y (List.mem_cons_of_mem _ hy)
        · rw [← h3]
          cases p with
          | nil => rfl
          | cons y r => rfl
/-- what is beneath -/
theorem jn_take {a b : List (List Nat)} (ha : a ≠ []) (hb : b ≠ []) (fa : Fr a) (fb : Fr b) : (jn a).take ((jn b).length + 1) = jn b ++ [47] ↔ ∃ c, c ≠ [] ∧ a = b ++ c := by
  constructor
  · intro h
    have e : jn a = jn b ++ 47 :: (jn a).drop ((jn b).length + 1) := by
      have := List.take_append_drop ((jn b).length + 1) (jn a)
      rw [h] at this
      rw [← this]
      simp
    obtain ⟨p, p1, p2, p3⟩ := jn_ex ((jn a).drop ((jn b).length + 1))
    rw [← p3, ← jn_app hb p1] at e
    exact ⟨p, p1, jn_inj ha (by simp [hb]) fa (fun x hx => by
      rcases List.mem_append.mp hx with hx | hx
      · exact fb x hx
      · exact p2 x hx) e⟩
  · rintro ⟨c, hc, rfl⟩
    rw [jn_app hb hc]
    rw [show jn b ++ 47 :: jn c = (jn b ++ [47]) ++ jn c by simp]
    exact List.take_left' (by simp)
theorem jn_drop {b c : List (List Nat)} (hb : b ≠ []) (hc : c ≠ []) : (jn (b ++ c)).drop ((jn b).length + 1) = jn c := by
  rw [jn_app hb hc, show jn b ++ 47 :: jn c = (jn b ++ [47]) ++ jn c by simp]
  exact List.drop_left' (by simp)
/-! ### texts -/
def cl (x : Str) : List Nat := x.cps.toList
theorem cl_inj {x y : Str} (h : cl x = cl y) : x = y := by
  cases x; cases y
  simp only [cl] at h
  simp only [Str.mk.injEq]
  exact Array.toList_inj.mp h
theorem len_cl (x : Str) : x.length = (cl x).length := by unfold cl; simp [Str.length]
theorem cl_app (x y : Str) : cl (x ++ y) = cl x ++ cl y := by
  unfold cl
  show (x.cps ++ y.cps).toList = _
  rw [Array.toList_append]
theorem sl_eq : ("/" : Str) = ⟨#[47]⟩ := by decide +kernel
theorem cl_sl : cl "/" = [47] := by rw [sl_eq]; rfl
/-- names, strokes between them -/
def J (l : List Str) : Str := Txt.join "/" l
theorem J_eq (l : List Str) : J l = Str.join "/" l := StrLaws.glued_eq_join _ _
theorem cl_J : ∀ l : List Str, cl (J l) = jn (l.map cl)
  | [] => by rw [J_eq]; rfl
  | [x] => by rw [J_eq]; rfl
  | x :: y :: r => by
    rw [J_eq]
    show cl (x ++ "/" ++ Str.join "/" (y :: r)) = _
    rw [cl_app, cl_app, cl_sl, ← J_eq, cl_J (y :: r)]
    simp [jn]
def FrS (l : List Str) : Prop := ∀ x ∈ l, 47 ∉ cl x
theorem FrS.fr {l : List Str} (h : FrS l) : Fr (l.map cl) := fun x hx => by
  obtain ⟨y, hy, rfl⟩ := List.mem_map.mp hx
  exact h y hy
theorem map_cl_inj : ∀ {a b : List Str}, a.map cl = b.map cl → a = b
  | [], [], _ => rfl
  | [], _ :: _, h => by simp at h
  | _ :: _, [], h => by simp at h
  | x :: a, y :: b, h => by
    simp only [List.map_cons, List.cons.injEq] at h
    rw [cl_inj h.1, map_cl_inj h.2]
theorem J_inj {a b : List Str} (ha : a ≠ []) (hb : b ≠ []) (fa : FrS a) (fb : FrS b) (h : J a = J b) : a = b := by
  have e := congrArg cl h
  rw [cl_J, cl_J] at e
  exact map_cl_inj (jn_inj (by simpa using ha) (by simpa using hb) fa.fr fb.fr e)
theorem split_ne (x y : Str) : Txt.split x y ≠ [] := by
  unfold Txt.split
  split
  · simp
  · split
    · simp
    · rw [StrLaws.partsBetween_eq]
      obtain ⟨p, r, e⟩ := StrLaws.partsFrom_ne x y.length 0 (Builtin.Str.occurrences x y 0 x.length (x.length + 1))
      rw [e]; simp
theorem J_split {l : List Str} (hl : l ≠ []) (fl : FrS l) : Txt.split (J l) "/" = l := by
  refine J_inj (split_ne _ _) hl (fun p hp => ?_) fl ?_
  · have hp : p ∈ Txt.split (J l) ⟨#[47]⟩ := by rw [← sl_eq]; exact hp
    exact StrLaws.split_free (J l) 47 p hp
  · rw [J_eq (Txt.split _ _), StrLaws.join_split]
/-- the law's own look: p beneath o -/
theorem cut_to (z : Str) (k : Nat) : cl (cutS z none (some (k : Int))) = (cl z).take k := by
  unfold cutS cl
  rw [HT.sIx_none, HT.sIx_nat, List.drop_zero, Nat.sub_zero]
  show List.take (min k z.length) z.cps.toList = _
  have e : z.length = z.cps.toList.length := by simp [Str.length]
  rw [e]
  exact List.take_eq_take_min.symm
theorem cut_from (z : Str) (k : Nat) : cl (cutS z (some (k : Int)) none) = (cl z).drop k := by
  unfold cutS cl
  rw [HT.sIx_none, HT.sIx_nat]
  have e : z.length = z.cps.toList.length := by simp [Str.length]
  show List.take (z.length - min k z.length) (List.drop (min k z.length) z.cps.toList) = _
  rw [e]
  by_cases h : k ≤ z.cps.toList.length
  · rw [Nat.min_eq_left h]
    exact List.take_of_length_le (by rw [List.length_drop]; exact Nat.le_refl _)
  · rw [Nat.min_eq_right (by omega), List.drop_of_length_le (Nat.le_refl _), List.drop_of_length_le (by omega)]
    simp
def pre (b a : List Str) : Bool := decide (b.length < a.length) && decide (a.take b.length = b)
theorem pre_iff {a b : List Str} : pre b a = true ↔ ∃ c, c ≠ [] ∧ a = b ++ c := by
  unfold pre
  simp only [Bool.and_eq_true, decide_eq_true_eq]
  constructor
  · rintro ⟨h1, h2⟩
    refine ⟨a.drop b.length, fun z => ?_, ?_⟩
    · have := congrArg List.length z
      simp at this
      omega
    · conv => lhs; rw [← List.take_append_drop b.length a, h2]
  · rintro ⟨c, hc, rfl⟩
    have := List.length_pos_iff.mpr hc
    exact ⟨by rw [List.length_append]; omega, by simp⟩
theorem cut_ben {a b : List Str} (ha : a ≠ []) (hb : b ≠ []) (fa : FrS a) (fb : FrS b) : decide (V.str (cutS (J a) none (some (((J b).length : Int) + 1))) = V.str (J b ++ "/")) = pre b a := by
  have e : (((J b).length : Int) + 1) = (((J b).length + 1 : Nat) : Int) := by simp
  rw [e]
  have k : (cutS (J a) none (some (((J b).length + 1 : Nat) : Int)) = J b ++ "/") ↔ pre b a = true := by
    rw [pre_iff]
    constructor
    · intro h
      have h := congrArg cl h
      rw [cut_to, cl_app, cl_sl, cl_J, cl_J, len_cl, cl_J] at h
      obtain ⟨c, c1, c2⟩ := (jn_take (by simpa using ha) (by simpa using hb) fa.fr fb.fr).mp h
      refine ⟨a.drop b.length, fun z => ?_, ?_⟩
      · have := congrArg List.length z
        have l := congrArg List.length c2
        have := List.length_pos_iff.mpr c1
        simp at *
        omega
      · apply map_cl_inj
        rw [List.map_append, List.map_drop, c2]
        have : (b.map cl).length = b.length := by simp
        rw [← this, List.drop_left]
    · rintro ⟨c, hc, rfl⟩
      apply cl_inj
      rw [cut_to, cl_app, cl_sl, cl_J, cl_J, len_cl, cl_J]
      exact (jn_take (by simpa using ha) (by simpa using hb) fa.fr fb.fr).mpr ⟨c.map cl, by simpa using hc, by simp⟩
  cases hp : pre b a with
  | true => exact decide_eq_true (congrArg V.str (k.mpr hp))
  | false =>
    refine decide_eq_false fun h => ?_
    have := k.mp (V.str.inj h)
    rw [hp] at this; cases this
theorem cut_rest {b c : List Str} (hb : b ≠ []) (hc : c ≠ []) : cutS (J (b ++ c)) (some (((J b).length : Int) + 1)) none = J c := by
  have e : (((J b).length : Int) + 1) = (((J b).length + 1 : Nat) : Int) := by simp
  rw [e]
  apply cl_inj
  rw [cut_from, cl_J, cl_J, len_cl, cl_J, List.map_append]
  exact jn_drop (by simpa using hb) (by simpa using hc)
end K2
set_option Elab.async false
set_option linter.all false
set_option maxRecDepth 100000
namespace K2
open PySem PySem.Spec PyProof.Rows L2 Nb RZ
def okc (c : Nat) : Bool := (decide (97 ≤ c) && decide (c ≤ 122)) || (decide (48 ≤ c) && decide (c ≤ 57))
/-- a name as the law draws them -/
def NameOk (x : Str) : Bool := decide (1 ≤ x.cps.size) && decide (x.cps.size ≤ 2) && x.cps.toList.all okc
def NZ (x : Str) : Bool := NameOk x && !decide (x = "zz")
def alpha : Str := "abcdefghijklmnopqrstuvwxyz0123456789"
theorem alpha_ok : (alpha.cps.toList.all fun c => NZ ⟨#[c]⟩) = true := by decide +kernel
theorem alpha_len : alpha.cps.size ≤ 1000 := by decide +kernel
theorem alpha_ne : alpha.cps.toList ≠ [] := by decide +kernel
theorem alpha_len2 : alpha.cps.toList.length ≤ 1000 := by decide +kernel
theorem six : (["a", "b", "c", "c1", "0"] : List Str).all NZ = true := by decide +kernel
/-- the names of a path -/
def pickMe : ME := mCall 2 [] mf_law_pick (mCons (mV 0) (mCons (mLst (mCons (mC (.str "a")) (mCons (mC (.str "b")) (mCons (mC (.str "c")) (mCons (mC (.str "c1")) (mCons (mC (.str "0")) (mCons (mV 2) (fun _ => pure [])))))))) (fun _ => pure [])))
theorem pickMe_ok (ns : List Int) (h : DrawsOk ns) (τ : Tau) (h0 : τ[0]? = some (some .src)) (sign : Str) (hs : NZ sign = true) (h2 : τ[2]? = some (some (.str sign))) : ∃ x ns', pickMe τ (some ns) = some (.str x, some ns') ∧ NZ x = true ∧ DrawsOk ns' := by
  obtain ⟨d, ns', e, hd, ok⟩ := pick ns h [.str "a", .str "b", .str "c", .str "c1", .str "0", .str sign] (by simp) (by simp)
  have hx : ∃ x, d = .str x ∧ NZ x = true := by
    have s6 := six
    simp only [List.all_cons, List.all_nil, Bool.and_true, Bool.and_eq_true] at s6
    simp only [List.mem_cons, List.not_mem_nil, or_false] at hd
    rcases hd with rfl | rfl | rfl | rfl | rfl | rfl
    · exact ⟨_, rfl, s6.1⟩
    · exact ⟨_, rfl, s6.2.1⟩
    · exact ⟨_, rfl, s6.2.2.1⟩
    · exact ⟨_, rfl, s6.2.2.2.1⟩
    · exact ⟨_, rfl, s6.2.2.2.2⟩
    · exact ⟨_, rfl, hs⟩
  obtain ⟨x, rfl, hx⟩ := hx
  refine ⟨x, ns', ?_, hx, ok⟩
  simp [pickMe, mCall, mCons, mV, mLst, mC, bind, M.bind, pure, M.pure, opt, h0, h2, e]
theorem names_comp (τ : Tau) (hl : τ.length = 5) (h0 : τ[0]? = some (some .src)) (sign : Str) (hs : NZ sign = true) (h2 : τ[2]? = some (some (.str sign))) : ∀ (ds : List D) (ns : List Int), DrawsOk ns →
    ∃ (xs : List Str) (ns' : List Int), compS (gN 4) tYesM pickMe [4] τ ds (some ns) = some (xs.map .str, some ns') ∧ xs.length = ds.length ∧ (∀ x ∈ xs, NZ x = true) ∧ DrawsOk ns'
  | [], ns, h => ⟨[], ns, rfl, rfl, (fun _ z => nomatch z), h⟩
  | d :: ds, ns, h => by
    obtain ⟨x, n1, e1, hx, ok1⟩ := pickMe_ok ns h (τ.set 4 (some d)) (by rw [List.getElem?_set_ne (by decide)]; exact h0) sign hs (by rw [List.getElem?_set_ne (by decide)]; exact h2)
    obtain ⟨xs, n2, e2, hl2, hxs, ok2⟩ := names_comp τ hl h0 sign hs h2 ds n1 ok1
    refine ⟨x :: xs, n2, ?_, by simp [hl2], ?_, ok2⟩
    · simp [compS, gN, tYesM, setAllT, bind, M.bind, pure, M.pure, opt, e1]
      rw [e2]
    · intro y hy
      rcases List.mem_cons.mp hy with rfl | hy
      · exact hx
      · exact hxs y hy
end K2
set_option Elab.async false
set_option linter.all false
set_option maxRecDepth 100000
namespace K2
open PySem PySem.Spec PyProof.Rows L2 Nb RZ
theorem names_sum : ∀ (xs : List Str), (∀ x ∈ xs, NameOk x = true) → (xs.map (·.length)).sum ≤ 2 * xs.length
  | [], _ => Nat.le_refl _
  | x :: xs, h => by
    have h1 := h x List.mem_cons_self
    have h2 := names_sum xs fun y hy => h y (List.mem_cons_of_mem _ hy)
    unfold NameOk at h1
    simp only [Bool.and_eq_true, decide_eq_true_eq] at h1
    have h3 : x.length = x.cps.size := rfl
    simp only [List.map_cons, List.sum_cons, List.length_cons]
    omega
theorem rng_len (lo : Int) (n : Nat) : (rngD lo n).length = n := by unfold rngD; simp
theorem strsD_map : ∀ xs : List Str, strsD (xs.map .str) = some xs
  | [] => rfl
  | x :: xs => by simp [strsD, strsD_map xs]
/-- a drawn path: names, a stroke between them -/
def PathOk (p : Str) (names : List Str) : Prop := p = Txt.join "/" names ∧ 1 ≤ names.length ∧ names.length ≤ 4 ∧ ∀ x ∈ names, NameOk x = true
theorem some_path (ns : List Int) (h : DrawsOk ns) (most : Int) (h1 : 1 ≤ most) (h4 : most ≤ 4) : ∃ p names ns', mf_law_some_path [.src, .int most] (some ns) = some (.str p, some ns') ∧ PathOk p names ∧ (∀ x ∈ names, x ≠ ("zz" : Str)) ∧ (names.length : Int) ≤ most ∧ DrawsOk ns' := by
  obtain ⟨d, n1, e1, hd, ok1⟩ := pick ns h (alpha.cps.toList.map fun c => .str ⟨#[c]⟩) (by simpa using alpha_ne) (by rw [List.length_map]; exact alpha_len2)
  obtain ⟨c, hc, rfl⟩ := List.mem_map.mp hd
  have hsign := List.all_eq_true.mp alpha_ok c hc
  obtain ⟨k, n2, e2, k0, k1, ok2⟩ := draw n1 ok1 most (by omega) (by omega)
  obtain ⟨xs, n3, e3, hl, hxs, ok3⟩ := names_comp [some .src, some (.int most), some (.str ⟨#[c]⟩), none, none] rfl rfl ⟨#[c]⟩ hsign rfl (rngD 0 (1 + k).toNat) n2 ok2
  rw [rng_len] at hl
  have hn : ∀ x ∈ xs, NameOk x = true := fun x hx => by have := hxs x hx; unfold NZ at this; rw [Bool.and_eq_true] at this; exact this.1
  have hz : ∀ x ∈ xs, x ≠ ("zz" : Str) := fun x hx => by have := hxs x hx; unfold NZ at this; rw [Bool.and_eq_true] at this; simpa using this.2
  have hsum := names_sum xs hn
  refine ⟨_, xs, n3, ?_, ⟨rfl, by omega, by omega, hn⟩, hz, by omega, ok3⟩
  have hsl : ("/" : Str).length = 1 := by decide +kernel
  have hj : (xs.map (·.length)).sum + xs.length * ("/" : Str).length ≤ 16777216 := by rw [hsl]; omega
  have hal : (("abcdefghijklmnopqrstuvwxyz0123456789" : Str).cps.size ≤ 1000) := alpha_len
  have hk : -(2 ^ 62) ≤ 1 + k ∧ 1 + k < 2 ^ 62 := by omega
  have hxl : (xs.map D.str).length ≤ 16000000 := by rw [List.length_map]; omega
  have e3' : compS (gN 4) tYesM (mCall 2 [] mf_law_pick (mCons (mV 0) (mCons (mLst (mCons (mC (.str "a")) (mCons (mC (.str "b")) (mCons (mC (.str "c")) (mCons (mC (.str "c1")) (mCons (mC (.str "0")) (mCons (mV 2) (fun _ => pure [])))))))) (fun _ => pure [])))) [4] [some .src, some (.int most), some (.str ⟨#[c]⟩), none, none] (rngD 0 (1 + k).toNat) (some n2) = some (xs.map .str, some n3) := e3
  have e1' : mf_law_pick [D.src, D.lst (List.map (fun c => D.str { cps := #[c] }) ("abcdefghijklmnopqrstuvwxyz0123456789" : Str).cps.toList)] (some ns) = some (.str ⟨#[c]⟩, some n1) := e1
  have s1 : (mSet (gN 2) (evA (mCall 2 [] mf_law_pick (mCons (mV 0) (mCons (mFz (mFunO listO3 (mCons (mC (.str "abcdefghijklmnopqrstuvwxyz0123456789")) (fun _ => pure [])))) (fun _ => pure [])))))) (startD 5 [.src, .int most]) (some ns) = .nx [some (.val .src), some (.val (.int most)), some (.val (.str ⟨#[c]⟩)), none, none] (some n1) := by
    simp [mSet, evA, mCall, mCons, mV, mFz, mFunO, mC, bind, M.bind, pure, M.pure, opt, startD, viewA, listO3, listO, lstO, lstKO, textO, hal, ownD, e1', gN, setAllD]
  have s2 : (mSet (gN 3) (evA (mFz (mComp [4] (mFunI rngF1 (mCons (mOp addD (mC (.int 1)) (mCall 2 [] mf_law_draw (mCons (mV 0) (mCons (mV 1) (fun _ => pure []))))) (fun _ => pure []))) (gN 4) tYesM (mCall 2 [] mf_law_pick (mCons (mV 0) (mCons (mLst (mCons (mC (.str "a")) (mCons (mC (.str "b")) (mCons (mC (.str "c")) (mCons (mC (.str "c1")) (mCons (mC (.str "0")) (mCons (mV 2) (fun _ => pure [])))))))) (fun _ => pure [])))))))) [some (.val .src), some (.val (.int most)), some (.val (.str ⟨#[c]⟩)), none, none] (some n1) = .nx [some (.val .src), some (.val (.int most)), some (.val (.str ⟨#[c]⟩)), some (.val (.lst (xs.map .str))), none] (some n3) := by
    have : (mFunI rngF1 (mCons (mOp addD (mC (.int 1)) (mCall 2 [] mf_law_draw (mCons (mV 0) (mCons (mV 1) (fun _ => pure []))))) (fun _ => pure []))) [some .src, some (.int most), some (.str ⟨#[c]⟩), none, none] (some n1) = some (rngD 0 (1 + k).toNat, some n2) := by
      simp only [Int.reducePow] at hk
      simp [mFunI, mCons, mOp, mC, mCall, mV, bind, M.bind, pure, M.pure, opt, e2, addD, orF, addI, rngF1, hk]
    simp only [mSet, evA, mFz, mComp, viewA, List.map_cons, List.map_nil, bind, M.bind, this, wipeD, List.set_cons_succ, List.set_cons_zero, e3', opt, if_pos hxl, Option.map_some, ownD, gN, setAllD, List.foldl_cons, List.foldl_nil]
  have s3 : (mRet (evA (mOp joinD (mC (.str "/")) (mV 3)))) [some (.val .src), some (.val (.int most)), some (.val (.str ⟨#[c]⟩)), some (.val (.lst (xs.map .str))), none] (some n3) = .rt (.str (Txt.join "/" xs)) (some n3) := by
    simp [mRet, evA, mOp, mC, mV, bind, M.bind, pure, M.pure, opt, viewA, joinD, strsD_map, hj]
  unfold mf_law_some_path mDef mb_law_some_path mSeq
  rw [s1]
  dsimp only
  rw [s2]
  dsimp only
  rw [s3]
end K2
set_option Elab.async false
set_option linter.all false
set_option maxRecDepth 100000
namespace K2
open PySem PySem.Spec PyProof.Rows L2 Nb RZ
theorem bind_of {α β : Type} {m : M α} {f : α → M β} {s s1 : Sr} {a : α} (h : m s = some (a, s1)) : (m >>= f) s = f a s1 := by rw [M.bind_ap, h]
/-- the law's own look whether a path is beneath another one -/
def ben (p o : Str) : Bool := decide (V.str (cutS p none (some ((o.length : Int) + 1))) = V.str (o ++ "/"))
def Small (p : Str) : Prop := p.length ≤ 1000
theorem ben_ok (p o : Str) (R : Sr) (hp : Small p) (ho : Small o) : mf_law_is_beneath [.str p, .str o] R = some (.bl (ben p o), R) := by
  have hs : p.length ≤ sizeLine := by rw [sizeLine_eq]; unfold Small at hp; omega
  have hs2 : o.length ≤ sizeLine := by rw [sizeLine_eq]; unfold Small at ho; omega
  have hsl : ("/" : Str).length = 1 := by decide +kernel
  have hs3 : o.length + ("/" : Str).length ≤ sizeLine := by rw [sizeLine_eq, hsl]; unfold Small at ho; omega
  simp [mf_law_is_beneath, mDef, mb_law_is_beneath, startD, mRet, evA, viewA, asE, mCmp, mSl, mNo, mPart, mOp, mFun, mCons, mV, mC, bind, M.bind, pure, M.pure, opt, lenD, orL, lenV, hs, hs2, addD, orF, addI, addS, hs3, Nb.intD, slD, eqD3, eqD, eqS, vD, scal, ben]
def room (ks : List Str) (p : Str) : Bool := !(ks.any fun o => ben p o || ben o p)
def roomMe : ME := mOr (mCall 2 [] mf_law_is_beneath (mCons (mV 1) (mCons (mV 2) (fun _ => pure [])))) (mCall 2 [] mf_law_is_beneath (mCons (mV 2) (mCons (mV 1) (fun _ => pure []))))
theorem room_comp (p : Str) (hp : Small p) (kd : Option D) : ∀ (kvs : List (Key × D)) (ks : List Str) (R : Sr), keysS kvs = some ks → (∀ k ∈ ks, Small k) → compS (gN 2) tYesM roomMe [2] [kd, some (.str p), none] (keysD kvs) R = some (ks.map fun o => .bl (ben p o || ben o p), R)
  | [], ks, R, e, _ => by cases e; rfl
  | (.inl i, d) :: kvs, ks, R, e, _ => by cases e
  | (.inr s, d) :: kvs, ks, R, e, hk => by
    unfold keysS at e
    cases h : keysS kvs with
    | none => rw [h] at e; cases e
    | some l =>
      rw [h] at e; cases e
      have ih := room_comp p hp kd kvs l R h fun k hk' => hk k (List.mem_cons_of_mem _ hk')
      have hs := hk s List.mem_cons_self
      have e1 := ben_ok p s R hp hs
      have e2 := ben_ok s p R hs hp
      have hm : roomMe (setAllT [kd, some (.str p), none] [(2, .str s)]) R = some (.bl (ben p s || ben s p), R) := by
        cases hb : ben p s with
        | true => simp [setAllT, bind, M.bind, pure, M.pure, opt, roomMe, mOr, mCall, mCons, mV, e1, hb, truD]
        | false => simp [setAllT, bind, M.bind, pure, M.pure, opt, roomMe, mOr, mCall, mCons, mV, e1, e2, hb, truD]
      unfold keysD at ih ⊢
      simp only [List.map_cons, compS, gN, tYesM, bind, M.bind, pure, M.pure, opt, Option.map_some, List.all_cons, List.all_nil, List.contains_cons, List.contains_nil, Bool.or_false, BEq.rfl, Bool.and_true, if_true, hm]
      rw [ih]
      rfl
theorem room_ok (p : Str) (hp : Small p) (kvs : List (Key × D)) (ks : List Str) (R : Sr) (e : keysS kvs = some ks) (hl : kvs.length ≤ 1000) (hk : ∀ k ∈ ks, Small k) : mf_law_has_room [.dct kvs, .str p] R = some (.bl (room ks p), R) := by
  have c := room_comp p hp (some (.dct kvs)) kvs ks R e hk
  have hlen : ∀ {kvs : List (Key × D)} {ks : List Str}, keysS kvs = some ks → ks.length = kvs.length := by
    intro kvs ks e
    have := congrArg List.length (keysS_eq e)
    simpa using this.symm
  have hx : (ks.map fun o => D.bl (ben p o || ben o p)).length ≤ 16000000 := by rw [List.length_map, hlen e]; omega
  have hb : ∀ bs : List Bool, blsD (bs.map D.bl) = some bs := by
    intro bs
    induction bs with
    | nil => rfl
    | cons b bs ih => simp [blsD, ih]
  have hb2 : blsD (ks.map fun o => D.bl (ben p o || ben o p)) = some (ks.map fun o => ben p o || ben o p) := by
    rw [← hb, List.map_map]; rfl
  have c' : compS (gN 2) tYesM (mOr (mCall 2 [] mf_law_is_beneath (mCons (mV 1) (mCons (mV 2) (fun _ => pure [])))) (mCall 2 [] mf_law_is_beneath (mCons (mV 2) (mCons (mV 1) (fun _ => pure []))))) [2] [some (.dct kvs), some (.str p), none] (keysD kvs) R = some (ks.map fun o => .bl (ben p o || ben o p), R) := c
  have m1 : (mComp [2] (mLkI keysD (mV 0)) (gN 2) tYesM (mOr (mCall 2 [] mf_law_is_beneath (mCons (mV 1) (mCons (mV 2) (fun _ => pure [])))) (mCall 2 [] mf_law_is_beneath (mCons (mV 2) (mCons (mV 1) (fun _ => pure [])))))) [some (.dct kvs), some (.str p), none] R = some (.lst (ks.map fun o => .bl (ben p o || ben o p)), R) := by
    simp only [mComp, mLkI, mV, bind, M.bind, opt, List.getElem?_cons_zero, Option.join_some, Option.map_some, wipeD, List.set_cons_succ, List.set_cons_zero, c', if_pos hx]
  let C : Tau → M Own := mComp [2] (mLkI keysD (mV 0)) (gN 2) tYesM (mOr (mCall 2 [] mf_law_is_beneath (mCons (mV 1) (mCons (mV 2) (fun _ => pure [])))) (mCall 2 [] mf_law_is_beneath (mCons (mV 2) (mCons (mV 1) (fun _ => pure [])))))
  have m2 : mFz C [some (.dct kvs), some (.str p), none] R = some (.lst (ks.map fun o => .bl (ben p o || ben o p)), R) := bind_of (f := fun ob => opt (ownD ob)) m1
  have m3 : mFun anyD (mCons (mFz C) (fun _ => pure [])) [some (.dct kvs), some (.str p), none] R = some (.bl ((ks.map fun o => ben p o || ben o p).any id), R) := by
    have a1 : (mCons (mFz C) (fun _ => pure [])) [some (.dct kvs), some (.str p), none] R = some ([.lst (ks.map fun o => .bl (ben p o || ben o p))], R) := bind_of (f := fun x => do let xs ← (pure [] : M (List D)); pure (x :: xs)) m2
    refine (bind_of (f := fun xs => opt (anyD xs)) a1).trans ?_
    rw [opt_ap]
    show (Option.map (fun bs : List Bool => D.bl (bs.any id)) (blsD _)).map (fun a => (a, R)) = _
    rw [hb2]
    rfl
  have m4 : mNot (mFun anyD (mCons (mFz C) (fun _ => pure []))) [some (.dct kvs), some (.str p), none] R = some (.bl (room ks p), R) := by
    refine (bind_of (f := fun x => do let k ← opt (truD x); pure (D.bl (!k))) m3).trans ?_
    show some (D.bl (!((ks.map fun o => ben p o || ben o p).any id)), R) = _
    rw [List.any_map]
    rfl
  have m5 : mb_law_has_room (startD 3 [.dct kvs, .str p]) R = .rt (.bl (room ks p)) R := by
    have v : viewA (startD 3 [.dct kvs, .str p]) = [some (.dct kvs), some (.str p), none] := rfl
    unfold mb_law_has_room mRet evA
    rw [v, show mNot (mFun anyD (mCons (mFz (mComp [2] (mLkI keysD (mV 0)) (gN 2) tYesM (mOr (mCall 2 [] mf_law_is_beneath (mCons (mV 1) (mCons (mV 2) (fun _ => pure [])))) (mCall 2 [] mf_law_is_beneath (mCons (mV 2) (mCons (mV 1) (fun _ => pure []))))))) (fun _ => pure []))) [some (.dct kvs), some (.str p), none] R = _ from m4]
  unfold mf_law_has_room mDef
  rw [m5]
end K2
set_option Elab.async false
set_option linter.all false
set_option maxRecDepth 100000
set_option maxHeartbeats 1000000
namespace K2
open PySem PySem.Spec PyProof.Rows L2 Nb RZ
/-! ### paths as the law draws them -/
def GP (l : List Str) : Prop := 1 ≤ l.length ∧ l.length ≤ 4 ∧ ∀ x ∈ l, NameOk x = true
theorem GP.ne {l : List Str} (h : GP l) : l ≠ [] := fun z => by have := h.1; rw [z] at this; simp at this
theorem nm_cl {x : Str} (h : NameOk x = true) : 1 ≤ (cl x).length ∧ (cl x).length ≤ 2 ∧ ∀ c ∈ cl x, okc c = true := by
  unfold NameOk at h
  simp only [Bool.and_eq_true, decide_eq_true_eq] at h
  refine ⟨?_, ?_, fun c hc => List.all_eq_true.mp h.2 c hc⟩
  · show 1 ≤ x.cps.toList.length; rw [Array.length_toList]; exact h.1.1
  · show x.cps.toList.length ≤ 2; rw [Array.length_toList]; exact h.1.2
theorem GP.fr {l : List Str} (h : GP l) : FrS l := fun x hx z => by
  have := (nm_cl (h.2.2 x hx)).2.2 47 z
  revert this; decide
theorem jn_len : ∀ l : List Str, (∀ x ∈ l, NameOk x = true) → (jn (l.map cl)).length ≤ 3 * l.length
  | [], _ => by simp [jn]
  | [x], h => by have := nm_cl (h x List.mem_cons_self); show (cl x).length ≤ 3; omega
  | x :: y :: r, h => by
    have h1 := nm_cl (h x List.mem_cons_self)
    have h2 := jn_len (y :: r) fun z hz => h z (List.mem_cons_of_mem _ hz)
    show (cl x ++ 47 :: jn ((y :: r).map cl)).length ≤ _
    rw [List.length_append, List.length_cons]
    simp only [List.length_cons] at *
    omega
theorem GP.len {l : List Str} (h : GP l) : (J l).length ≤ 12 := by
  rw [len_cl, cl_J]
  have := jn_len l h.2.2
  have := h.2.1
  omega
theorem jn_chars : ∀ l : List Str, (∀ x ∈ l, NameOk x = true) → ∀ c ∈ jn (l.map cl), okc c = true ∨ c = 47
  | [], _, c, hc => by simp [jn] at hc
  | [x], h, c, hc => .inl ((nm_cl (h x List.mem_cons_self)).2.2 c hc)
  | x :: y :: r, h, c, hc => by
    have hc : c ∈ cl x ++ 47 :: jn ((y :: r).map cl) := hc
    rcases List.mem_append.mp hc with hc | hc
    · exact .inl ((nm_cl (h x List.mem_cons_self)).2.2 c hc)
    · rcases List.mem_cons.mp hc with hc | hc
      · exact .inr hc
      · exact jn_chars (y :: r) (fun z hz => h z (List.mem_cons_of_mem _ hz)) c hc
def okp (c : Nat) : Bool := okc c || c == 47
theorem okp_lt {c : Nat} (h : okp c = true) : c < 123 := by
  unfold okp okc at h
  simp at h
  omega
theorem okp_tab : ((List.range 123).all fun c => !okp c || (decide (c < 128) && decide (Unicode.lowerOf c = [c]) && (decide (c = 0x3A3) == false) && (Unicode.isAlnum c == okc c))) = true := by decide +kernel
theorem okp_facts {c : Nat} (h : okp c = true) : c < 128 ∧ Unicode.lowerOf c = [c] ∧ c ≠ 0x3A3 ∧ Unicode.isAlnum c = okc c := by
  have := List.all_eq_true.mp okp_tab c (List.mem_range.mpr (okp_lt h))
  rw [h] at this
  simp only [Bool.not_true, Bool.false_or, Bool.and_eq_true, decide_eq_true_eq, beq_iff_eq, decide_eq_false_iff_not] at this
  exact ⟨this.1.1.1, this.1.1.2, this.1.2, this.2⟩
theorem GP.chars {l : List Str} (h : GP l) : ∀ c ∈ cl (J l), okp c = true := fun c hc => by
  rw [cl_J] at hc
  unfold okp
  rcases jn_chars l h.2.2 c hc with h | h
  · rw [h]; rfl
  · rw [h]; decide
theorem ascii_of {x : Str} (h : ∀ c ∈ cl x, okp c = true) : Txt.isascii x = true := by
  unfold Txt.isascii
  rw [← Array.all_toList]
  exact List.all_eq_true.mpr fun c hc => decide_eq_true (okp_facts (h c hc)).1
theorem placed_id {x : Str} {f : Nat → Nat → List Nat} (h : ∀ (i c : Nat), x.cps[i]? = some c → f i c = [c]) : placed x f = x.cps := by
  unfold placed
  have e : (x.cps.mapIdx fun i c => (f i c).toArray) = x.cps.map fun c => #[c] := by
    apply Array.ext
    · simp
    · intro i h1 h2
      simp only [Array.getElem_mapIdx, Array.getElem_map]
      rw [h i _ (Array.getElem?_eq_getElem (by simpa using h1))]
  rw [e]
  apply Array.toList_inj.mp
  have fl : ∀ l : List Nat, (l.map (Array.toList ∘ fun c => #[c])).flatten = l := fun l => by
    induction l with
    | nil => rfl
    | cons c l ih => rw [List.map_cons, List.flatten_cons, ih]; rfl
  simp [fl]
theorem lower_of {x : Str} (h : ∀ c ∈ cl x, okp c = true) : Txt.lower x = x := by
  unfold Txt.lower
  rw [placed_id fun i c hc => ?_]
  have hm : c ∈ cl x := by
    show c ∈ x.cps.toList
    rw [← Array.getElem?_toList] at hc
    exact List.mem_of_getElem? hc
  obtain ⟨_, h1, h2, _⟩ := okp_facts (h c hm)
  unfold Unicode.lowerAt
  rw [hc]
  dsimp only
  rw [if_neg (by simp [h2]), h1]
theorem alnum_of {x : Str} (h : ∀ c ∈ cl x, okp c = true) (h0 : cl x ≠ []) : Txt.isalnum x = decide (47 ∉ cl x) := by
  have hp : x.length > 0 := by rw [len_cl]; exact List.length_pos_iff.mpr h0
  unfold Txt.isalnum
  rw [decide_eq_true hp, Bool.true_and, ← Array.all_toList]
  have : ∀ l : List Nat, (∀ c ∈ l, okp c = true) → l.all Unicode.isAlnum = decide (47 ∉ l) := by
    intro l
    induction l with
    | nil => intro _; rfl
    | cons c l ih =>
      intro h
      rw [List.all_cons, ih fun d hd => h d (List.mem_cons_of_mem _ hd), (okp_facts (h c List.mem_cons_self)).2.2.2]
      by_cases hc : c = 47
      · subst hc
        have : okc 47 = false := by decide
        rw [this]
        simp
      · have : okc c = true := by
          have := h c List.mem_cons_self
          unfold okp at this
          simpa [hc] using this
        rw [this]
        simp [Ne.symm hc]
  exact this _ h
theorem nm_alnum {x : Str} (h : NameOk x = true) : Txt.isalnum x = true := by
  obtain ⟨h1, h2, h3⟩ := nm_cl h
  rw [alnum_of (fun c hc => by unfold okp; rw [h3 c hc]; rfl) (fun z => by rw [z] at h1; simp at h1)]
  exact decide_eq_true fun z => by have := h3 47 z; revert this; decide
theorem nm_len {x : Str} (h : NameOk x = true) : x.length ≤ 2 := by rw [len_cl]; exact (nm_cl h).2.1
theorem J_ne {l : List Str} (h : GP l) : cl (J l) ≠ [] := by
  rw [cl_J]
  match l, h.1, h.2.2 with
  | [x], _, hx => exact fun z => by have := (nm_cl (hx x List.mem_cons_self)).1; rw [show cl x = [] from z] at this; simp at this
  | x :: y :: r, _, _ => simp [jn]
theorem J_alnum {l : List Str} (h : GP l) : Txt.isalnum (J l) = decide (l.length = 1) := by
  rw [alnum_of h.chars (J_ne h), cl_J]
  match l, h.1, h.fr with
  | [x], _, fx => exact (decide_eq_true (fx x List.mem_cons_self)).trans rfl
  | x :: y :: r, _, _ =>
    rw [decide_eq_false (by simp [jn]), decide_eq_false (by simp)]
/-! ### the program's look at paths -/
theorem small_len {x : Str} {n : Nat} (h : x.length ≤ 12) (hn : 12 ≤ n) : x.length ≤ n := by omega
theorem names_loop (p : Str) : ∀ (l : List Str) (s : Option Sv) (R : Sr), (∀ x ∈ l, NameOk x = true) → ∃ s', loopS (gN 1) (mIfS (evT (mOrT (mNotT (mTru (mFun1 isalnumD (mV 1)))) (mCmp gtD (mFun lenD (mCons (mV 1) (fun _ => pure []))) (mC (.int 8))))) (mRet (evA (mC (.bl false)))) mNil) (l.map D.str) [some (.val (.str p)), s] R = .nx [some (.val (.str p)), s'] R
  | [], s, R, _ => ⟨s, rfl⟩
  | x :: l, s, R, h => by
    have hx := h x List.mem_cons_self
    obtain ⟨s', e⟩ := names_loop p l (some (.val (.str x))) R fun y hy => h y (List.mem_cons_of_mem _ hy)
    refine ⟨s', ?_⟩
    have ha := nm_alnum hx
    have hl := nm_len hx
    have hl2 : x.length ≤ sizeLine := by rw [sizeLine_eq]; omega
    have hl3 : ¬ (8 : Int) < x.length := by omega
    have st : mIfS (evT (mOrT (mNotT (mTru (mFun1 isalnumD (mV 1)))) (mCmp gtD (mFun lenD (mCons (mV 1) (fun _ => pure []))) (mC (.int 8))))) (mRet (evA (mC (.bl false)))) mNil [some (.val (.str p)), some (.val (.str x))] R = .nx [some (.val (.str p)), some (.val (.str x))] R := by
      simp [mIfS, evT, viewB, mOrT, mNotT, mTru, mFun1, isalnumD, s0, mV, mCmp, gtD, cmpI, mFun, mCons, lenD, orL, lenV, mC, bind, M.bind, pure, M.pure, opt, truD, ha, hl2, hl3, mNil]
    rw [List.map_cons, loopS]
    show (match mIfS _ _ mNil [some (.val (.str p)), some (.val (.str x))] R with
      | .nx τ' R' => loopS _ _ _ τ' R'
      | .ct τ' R' => loopS _ _ _ τ' R'
      | .bk τ' R' => .nx τ' R'
      | o => o) = _
    rw [st]
    exact e
theorem path_text {l : List Str} (h : GP l) (R : Sr) : mf_is_path_text [.str (J l)] R = some (.bl true, R) := by
  have a1 := ascii_of h.chars
  have a2 := lower_of h.chars
  have a3 := J_alnum h
  have hl := h.len
  have l1 : (J l).length ≤ sizeLine := by rw [sizeLine_eq]; omega
  have l2 : (J l).length ≤ 5592405 := by omega
  have l3 : (J l).length ≤ 16000000 := by omega
  have hs := J_split h.ne h.fr
  have hsl : ("/" : Str).length ≠ 0 := by decide +kernel
  by_cases h1 : l.length = 1
  · have a3' : Txt.isalnum (J l) = true := by rw [a3]; exact decide_eq_true h1
    have l4 : ((J l).length : Int) ≤ 8 := by
      have := jn_len l h.2.2
      have e : (J l).length = (jn (l.map cl)).length := by rw [len_cl, cl_J]
      omega
    simp [mf_is_path_text, mDef, mb_is_path_text, startD, mSeq, mIfS, evT, viewB, mOrT, mNotT, mTru, mFun1, isasciiD, s0, mV, mCmp, neD3, neD, eqD3, eqD, orF, eqS, vD, scal, lowerD, bind, M.bind, pure, M.pure, opt, truD, a1, a2, a3', l1, l2, mNil, isalnumD, mRet, evA, viewA, asE, leD, cmpI, mFun, mCons, lenD, orL, lenV, mC, l4]
  · have a3' : Txt.isalnum (J l) = false := by rw [a3]; exact decide_eq_false h1
    obtain ⟨s', e⟩ := names_loop (J l) l none R h.2.2
    refine def_rt (N := 2) ?_
    show mb_is_path_text [some (.val (.str (J l))), none] R = _
    unfold mb_is_path_text
    refine (seq_nx (τ' := [some (.val (.str (J l))), none]) (R' := R) ?_).trans ?_
    · simp [mIfS, evT, viewB, mOrT, mNotT, mTru, mFun1, isasciiD, s0, mV, mCmp, neD3, neD, eqD3, eqD, orF, eqS, vD, scal, lowerD, bind, M.bind, pure, M.pure, opt, truD, a1, a2, l1, l2, mNil]
    refine (seq_nx (τ' := [some (.val (.str (J l))), none]) (R' := R) ?_).trans ?_
    · simp [mIfS, evT, viewB, mTru, mFun1, isalnumD, s0, mV, bind, M.bind, pure, M.pure, opt, truD, a3', mNil]
    refine (seq_nx (τ' := [some (.val (.str (J l))), s']) (R' := R) ?_).trans rfl
    refine (for_of (ds := l.map D.str) (R' := R) ?_).trans e
    simp [viewA, mSeqI, mOp, splitD, mV, mC, hsl, hs, l3, seqD, bind, M.bind, pure, M.pure, opt]
end K2
set_option Elab.async false
set_option linter.all false
set_option maxRecDepth 100000
set_option maxHeartbeats 1000000
namespace K2
open PySem PySem.Spec PyProof.Rows L2 Nb RZ
/-! ### folders above a path -/
def fols (l : List Str) : List Str := (List.range (l.length - 1)).map fun k => J (l.take (k + 1))
theorem J_sum : ∀ (xs : List Str), (∀ x ∈ xs, NameOk x = true) → xs.length ≤ 4 → (xs.map (·.length)).sum + xs.length * ("/" : Str).length ≤ 16777216 := fun xs h hl => by
  have h1 := names_sum xs h
  have hsl : ("/" : Str).length = 1 := by decide +kernel
  rw [hsl]
  omega
theorem join_ok {xs : List Str} (h : ∀ x ∈ xs, NameOk x = true) (hl : xs.length ≤ 4) : joinD (.str "/") (.lst (xs.map D.str)) = some (.str (J xs)) := by
  show (strsD (xs.map D.str)).bind _ = _
  rw [strsD_map, Option.bind_some, if_pos (J_sum xs h hl)]
  rfl
theorem cutG_to {α : Type} (xs : List α) (k : Nat) : cutG xs none (some (k : Int)) = xs.take k := by
  unfold cutG
  rw [HT.sIx_none, HT.sIx_nat, List.drop_zero, Nat.sub_zero]
  exact List.take_eq_take_min.symm
theorem cutG_from {α : Type} (xs : List α) (k : Nat) : cutG xs (some (k : Int)) none = xs.drop k := by
  unfold cutG
  rw [HT.sIx_none, HT.sIx_nat]
  by_cases h : k ≤ xs.length
  · rw [Nat.min_eq_left h]
    exact List.take_of_length_le (by rw [List.length_drop]; exact Nat.le_refl _)
  · rw [Nat.min_eq_right (by omega), List.drop_of_length_le (Nat.le_refl _), List.drop_of_length_le (by omega)]
    simp
theorem split_okD {l : List Str} (h : GP l) : splitD (.str (J l)) (.str "/") = some (.lst (l.map D.str)) := by
  have hsl : ("/" : Str).length ≠ 0 := by decide +kernel
  have l3 : (J l).length ≤ 16000000 := by have := h.len; omega
  show (if ("/" : Str).length ≠ 0 ∧ (J l).length ≤ 16000000 then some (D.lst ((Txt.split (J l) "/").map D.str)) else none) = _
  rw [if_pos ⟨hsl, l3⟩, J_split h.ne h.fr]
def pfx (l : List Str) : D → D | .int i => .str (J (l.take i.toNat)) | _ => .non
theorem rng_mem {lo : Int} {n : Nat} {d : D} (h : d ∈ rngD lo n) : ∃ k, k < n ∧ d = .int (lo + (k : Int)) := by
  unfold rngD at h
  obtain ⟨k, hk, rfl⟩ := List.mem_map.mp h
  exact ⟨k, List.mem_range.mp hk, rfl⟩
theorem take_nm {l : List Str} (h : ∀ x ∈ l, NameOk x = true) (k : Nat) : ∀ x ∈ l.take k, NameOk x = true := fun x hx => h x (List.mem_of_mem_take hx)
/-- names[:size] joined, at slot i the size, at slot j the names -/
theorem joins_me {l : List Str} (h : ∀ x ∈ l, NameOk x = true) (hl : l.length ≤ 4) {i j : Nat} {τ : Tau} {R : Sr} {k : Nat} (hj : τ[j]? = some (some (.lst (l.map D.str)))) (hi : τ[i]? = some (some (.int (k : Int)))) :
    mOp joinD (mC (.str "/")) (mSl (mV j) mNo (mPart (mV i))) τ R = some (.str (J (l.take k)), R) := by
  refine op_ok (x := .str "/") (R1 := R) rfl (y := .lst ((l.take k).map D.str)) (R2 := R) ?_ (join_ok (take_nm h k) (by rw [List.length_take]; omega))
  refine (bind_ok (mV_ok hj)).trans ?_
  refine (bind_ok (a := none) (s1 := R) rfl).trans ?_
  refine (bind_ok (a := some (k : Int)) (s1 := R) ((bind_ok (mV_ok hi)).trans rfl)).trans ?_
  show (slD (.lst (l.map D.str)) none (some (k : Int))).map (fun a => (a, R)) = _
  show some (D.lst (cutG (l.map D.str) none (some (k : Int))), R) = _
  rw [cutG_to, List.map_take]
theorem rngF2_ok {i j : Int} (h1 : -(2 ^ 62) ≤ i ∧ i < 2 ^ 62) (h2 : -(2 ^ 62) ≤ j ∧ j < 2 ^ 62) : rngF2 [.int i, .int j] = some (rngD i (j - i).toNat) := if_pos ⟨h1.1, h1.2, h2.1, h2.2⟩
theorem len_lst (ds : List D) : lenD [.lst ds] = some (.int ds.length) := rfl
theorem folders_ok {l : List Str} (h : GP l) (R : Sr) : mf_folders_above [.str (J l)] R = some (.lst ((fols l).map D.str), R) := by
  refine def_rt ?_
  show mb_folders_above [some (.val (.str (J l))), none, none] R = _
  unfold mb_folders_above
  have e1 : mOp splitD (mV 0) (mC (.str "/")) [some (.str (J l)), none, none] R = some (.lst (l.map D.str), R) := op_ok rfl rfl (split_okD h)
  refine (seq_nx (τ' := [some (.val (.str (J l))), some (.val (.lst (l.map D.str))), none]) (R' := R) ((set_of (us := [(1, .lst (l.map D.str))]) e1 rfl).trans rfl)).trans ?_
  refine ret_of ?_
  have hlen := h.2.1
  have e2 : mFunI rngF2 (mCons (mC (.int 1)) (mCons (mFun lenD (mCons (mV 1) (fun _ => pure []))) (fun _ => pure []))) [some (.str (J l)), some (.lst (l.map D.str)), none] R = some (rngD 1 (l.length - 1), R) := by
    refine funI_ok (xs := [.int 1, .int (l.length : Int)]) (R1 := R) (cons_ok rfl (cons_ok (fun_okD (cons_ok rfl rfl) (by rw [len_lst, List.length_map])) rfl)) ?_
    have e0 : ((l.length : Int) - 1).toNat = l.length - 1 := by omega
    have g2 : -(2 ^ 62) ≤ (l.length : Int) ∧ (l.length : Int) < 2 ^ 62 := by omega
    exact (rngF2_ok (by omega) g2).trans (by rw [e0])
  have e3 : compS (gN 2) tYesM (mOp joinD (mC (.str "/")) (mSl (mV 1) mNo (mPart (mV 2)))) [2] [some (.str (J l)), some (.lst (l.map D.str)), none] (rngD 1 (l.length - 1)) R = some ((rngD 1 (l.length - 1)).map (pfx l), R) := by
    refine comp_map _ fun d hd => ?_
    obtain ⟨k, hk, rfl⟩ := rng_mem hd
    have ek : (1 + (k : Int)) = ((1 + k : Nat) : Int) := by simp
    rw [ek]
    exact joins_me h.2.2 hlen rfl rfl
  have e4 : (rngD 1 (l.length - 1)).map (pfx l) = (fols l).map D.str := by
    unfold rngD fols
    rw [List.map_map, List.map_map]
    apply List.map_congr_left
    intro k _
    show D.str (J (l.take (1 + (k : Int)).toNat)) = D.str (J (l.take (k + 1)))
    have e5 : (1 + (k : Int)).toNat = k + 1 := by omega
    rw [e5]
  rw [e4] at e3
  refine fz_ok (ob := .lst ((fols l).map D.str)) (comp_ok e2 e3 ?_) rfl
  rw [List.length_map]
  unfold fols
  rw [List.length_map, List.length_range]
  omega
/-! ### dicts -/
theorem val_put (kvs : List (Key × D)) (k : Key) (d : D) (j : Key) : valD (putD kvs k d) j = if j = k then some d else valD kvs j := by
  unfold putD
  by_cases h : (kvs.any fun kv => decide (kv.1 = k)) = true
  · rw [if_pos h]
    obtain ⟨p, hp, hk⟩ := List.any_eq_true.mp h
    have hk : p.1 = k := of_decide_eq_true hk
    clear h
    induction kvs with
    | nil => cases hp
    | cons q r ih =>
      obtain ⟨qk, qd⟩ := q
      by_cases e1 : qk = k
      · subst e1
        by_cases e2 : j = qk
        · subst e2; simp [valD]
        · have : ¬ qk = j := fun z => e2 z.symm
          simp only [List.map_cons, if_pos, valD, List.find?_cons, decide_eq_false this, e2, if_false]
          show valD (r.map fun kv => if kv.1 = qk then (kv.1, d) else kv) j = valD r j
          clear ih hp
          induction r with
          | nil => rfl
          | cons u s ih2 =>
            obtain ⟨uk, ud⟩ := u
            by_cases e3 : uk = qk
            · subst e3
              simp only [List.map_cons, if_pos, valD, List.find?_cons, decide_eq_false this]
              exact ih2
            · by_cases e4 : uk = j
              · subst e4
                simp [valD, e2]
              · simp only [List.map_cons, if_neg e3, valD, List.find?_cons, decide_eq_false e4]
                exact ih2
      · have hp' : p ∈ r := by
          rcases List.mem_cons.mp hp with rfl | h
          · exact absurd hk e1
          · exact h
        have ih := ih hp'
        by_cases e4 : qk = j
        · subst e4
          simp [valD, e1]
        · simp only [List.map_cons, if_neg e1, valD, List.find?_cons, decide_eq_false e4]
          exact ih
  · rw [if_neg h]
    have hn : ∀ q ∈ kvs, q.1 ≠ k := fun q hq z => h (List.any_eq_true.mpr ⟨q, hq, decide_eq_true z⟩)
    clear h
    induction kvs with
    | nil =>
      by_cases e : j = k
      · subst e; simp [valD]
      · have : ¬ k = j := fun z => e z.symm
        simp [valD, e, this]
    | cons q r ih =>
      obtain ⟨qk, qd⟩ := q
      have h1 := hn _ List.mem_cons_self
      have ih := ih fun u hu => hn u (List.mem_cons_of_mem _ hu)
      by_cases e4 : qk = j
      · subst e4
        simp [valD, h1]
      · simp only [List.cons_append, valD, List.find?_cons, decide_eq_false e4]
        exact ih
theorem put_len (kvs : List (Key × D)) (k : Key) (d : D) : (putD kvs k d).length ≤ kvs.length + 1 := by
  unfold putD
  split
  · rw [List.length_map]; omega
  · rw [List.length_append]; simp
/-- a dict whose keys are the texts of which P, n of them at most -/
def DKs (kvs : List (Key × D)) (P : Str → Prop) (n : Nat) : Prop := kvs.length ≤ n ∧ ∀ s, (valD kvs (.inr s)).isSome = true ↔ P s
theorem DKs.nil : DKs [] (fun _ => False) 0 := ⟨Nat.le_refl _, fun s => by simp [valD]⟩
theorem DKs.put {kvs : List (Key × D)} {P : Str → Prop} {n : Nat} (h : DKs kvs P n) (s : Str) (d : D) : DKs (putD kvs (.inr s) d) (fun x => x = s ∨ P x) (n + 1) := by
  refine ⟨Nat.le_trans (put_len ..) (by have := h.1; omega), fun x => ?_⟩
  rw [val_put]
  by_cases e : x = s
  · subst e; simp
  · have : ¬ (Sum.inr x : Key) = Sum.inr s := fun z => e (Sum.inr.inj z)
    rw [if_neg this, h.2 x]
    simp [e]
theorem in_dct (kvs : List (Key × D)) (s : Str) : inD (.str s) (.dct kvs) = some (valD kvs (.inr s)).isSome := by
  rfl
end K2
set_option Elab.async false
set_option linter.all false
set_option maxRecDepth 100000
set_option maxHeartbeats 1000000
namespace K2
open PySem PySem.Spec PyProof.Rows L2 Nb RZ
theorem loop_inv {g : D → Option (List (Nat × D))} {mb : MS} (Inv : Nat → TauS → Sr → Prop) : ∀ (ds : List D) (j : Nat), (∀ i d τ R, ds[i]? = some d → Inv (j + i) τ R → ∃ us τ' R', g d = some us ∧ mb (setAllD τ us) R = .nx τ' R' ∧ Inv (j + i + 1) τ' R') →
    ∀ τ R, Inv j τ R → ∃ τ' R', loopS g mb ds τ R = .nx τ' R' ∧ Inv (j + ds.length) τ' R'
  | [], j, _, τ, R, h => ⟨τ, R, rfl, h⟩
  | d :: ds, j, hs, τ, R, h => by
    obtain ⟨us, τ1, R1, e1, e2, h1⟩ := hs 0 d τ R rfl h
    obtain ⟨τ2, R2, e3, h2⟩ := loop_inv Inv ds (j + 1) (fun i e τ R he hi => by
      have := hs (i + 1) e τ R he (by rw [show j + (i + 1) = j + 1 + i by omega]; exact hi)
      rw [show j + (i + 1) + 1 = j + 1 + i + 1 by omega] at this
      exact this) τ1 R1 h1
    refine ⟨τ2, R2, (loop_nx e1 rfl e2).trans e3, ?_⟩
    rw [List.length_cons, show j + (ds.length + 1) = j + 1 + ds.length by omega]
    exact h2
/-! ### files -/
abbrev FF := List (List Str × Str)
def toK (F : FF) : List (Key × D) := F.map fun f => (Sum.inr (J f.1), D.str f.2)
def Apart2 (f g : List Str × Str) : Prop := f.1 ≠ g.1 ∧ pre f.1 g.1 = false ∧ pre g.1 f.1 = false
structure GF (F : FF) : Prop where
  gp : ∀ f ∈ F, GP f.1
  l3 : ∀ f ∈ F, f.1.length ≤ 3
  few : F.length ≤ 12
  apart : F.Pairwise Apart2
theorem val_toK (F : FF) (s : Str) : valD (toK F) (.inr s) = (F.find? fun f => decide (J f.1 = s)).map fun f => .str f.2 := by
  unfold valD toK
  rw [List.find?_map, Option.map_map]
  have e : ((fun kv : Key × D => decide (kv.1 = Sum.inr s)) ∘ fun f : List Str × Str => ((Sum.inr (J f.1) : Key), D.str f.2)) = fun f => decide (J f.1 = s) := by
    funext f
    by_cases h : J f.1 = s
    · simp [h]
    · have : ¬ (Sum.inr (J f.1) : Key) = Sum.inr s := fun z => h (Sum.inr.inj z)
      simp [h]
  rw [e]
  rfl
theorem GF.key {F : FF} (h : GF F) {f g : List Str × Str} (hf : f ∈ F) (hg : g ∈ F) (e : J f.1 = J g.1) : f = g := by
  have e1 := J_inj (h.gp f hf).ne (h.gp g hg).ne (h.gp f hf).fr (h.gp g hg).fr e
  obtain ⟨i, hi, rfl⟩ := List.getElem_of_mem hf
  obtain ⟨j, hj, rfl⟩ := List.getElem_of_mem hg
  have pw := List.pairwise_iff_getElem.mp h.apart
  rcases Nat.lt_trichotomy i j with l | l | l
  · exact absurd e1 (pw i j hi hj l).1
  · subst l; rfl
  · exact absurd e1.symm (pw j i hj hi l).1
theorem GF.val {F : FF} (h : GF F) {f : List Str × Str} (hf : f ∈ F) : valD (toK F) (.inr (J f.1)) = some (.str f.2) := by
  rw [val_toK]
  cases e : F.find? fun g => decide (J g.1 = J f.1) with
  | none =>
    have := List.find?_eq_none.mp e f hf
    simp at this
  | some g =>
    have h1 := List.mem_of_find?_eq_some e
    have h2 := List.find?_some e
    have h3 := h.key h1 hf (of_decide_eq_true h2)
    rw [h3]; rfl
theorem GF.apart2 {F : FF} (h : GF F) {f g : List Str × Str} (hf : f ∈ F) (hg : g ∈ F) : pre f.1 g.1 = false := by
  obtain ⟨i, hi, rfl⟩ := List.getElem_of_mem hf
  obtain ⟨j, hj, rfl⟩ := List.getElem_of_mem hg
  have pw := List.pairwise_iff_getElem.mp h.apart
  rcases Nat.lt_trichotomy i j with l | l | l
  · exact (pw i j hi hj l).2.1
  · subst l
    unfold pre
    simp
  · exact (pw j i hj hi l).2.2
theorem keys_toK (F : FF) : keysD (toK F) = F.map fun f => .str (J f.1) := by
  unfold keysD toK
  rw [List.map_map]
  rfl
/-- a folder of g that is a file: no -/
theorem GF.fold {F : FF} (h : GF F) {f g : List Str × Str} (hf : f ∈ F) (hg : g ∈ F) {k : Nat} (h1 : 1 ≤ k) (h2 : k < g.1.length) : J (g.1.take k) ≠ J f.1 := fun e => by
  have gt : GP (g.1.take k) := ⟨by rw [List.length_take]; omega, by rw [List.length_take]; have := (h.gp g hg).2.1; omega, take_nm (h.gp g hg).2.2 k⟩
  have e1 := J_inj gt.ne (h.gp f hf).ne gt.fr (h.gp f hf).fr e
  have := h.apart2 hf hg
  have p : pre f.1 g.1 = true := pre_iff.mpr ⟨g.1.drop k, fun z => by
    have := congrArg List.length z
    simp at this
    omega, by rw [← e1, List.take_append_drop]⟩
  rw [this] at p; cases p
theorem isi_str (s : Str) : isiD [.str s, .ty "str"] = some (.bl true) := by kernel_rfl
theorem isi_dct (kvs : List (Key × D)) : isiD [.dct kvs, .ty "dict"] = some (.bl true) := by kernel_rfl
theorem is_path_ok {l : List Str} (h : GP l) (R : Sr) : mf_is_path [.str (J l)] R = some (.bl true, R) := by
  refine def_rt (ret_of ?_)
  refine (bind_ok (a := .bl true) (s1 := R) (fun_okD (cons_ok rfl (cons_ok rfl rfl)) (isi_str _))).trans ?_
  refine (bind_ok (a := true) (s1 := R) rfl).trans ?_
  exact call_ok' (cons_ok rfl rfl) rfl (path_text h R)
def chk1 : MS := mIfS (evT (mOrT (mNotT (mTru (mCall 1 [] mf_is_path (mCons (mV 1) (fun _ => pure []))))) (mNotT (mTru (mFun isiD (mCons (mOp subD (mV 0) (mV 1)) (mCons (mC (.ty "str")) (fun _ => pure [])))))))) mStuck mNil
theorem chk1_ok {F : FF} (h : GF F) {f : List Str × Str} (hf : f ∈ F) (R : Sr) : chk1 [some (.val (.dct (toK F))), some (.val (.str (J f.1))), none, none, none, none] R = .nx [some (.val (.dct (toK F))), some (.val (.str (J f.1))), none, none, none, none] R := by
  refine (if_ff (R' := R) ?_).trans rfl
  refine or_ff (not_ok' (b := true) (tru_ok' (call_ok' (cons_ok rfl rfl) rfl (is_path_ok (h.gp f hf) R)) rfl)) ?_
  refine not_ok' (b := true) (tru_ok' (fun_okD (cons_ok (op_ok (d := .str f.2) rfl rfl ?_) (cons_ok rfl rfl)) (isi_str _)) rfl)
  show orF ixD dgetD (.dct (toK F)) (.str (J f.1)) = _
  show (valD (toK F) (.inr (J f.1))) = _
  exact h.val hf
def chk2a : MS := mSet (gN 4) (evA (mCall 1 [] mf_folders_above (mCons (mV 1) (fun _ => pure []))))
def chk2b : MS := mIfS (evT (mOrT (mCmp inD (mV 1) (mV 3)) (mTru (mFun anyD (mCons (mFz (mComp [5] (mSeqI (mV 4)) (gN 5) tYesM (asE (mCmp inD (mV 5) (mV 2))))) (fun _ => pure [])))))) mStuck mNil
def chk2c : MS := mPut 2 (evA (mV 1)) (evA (mC (.bl true)))
def chk2e : MS := mPut 3 (evA (mV 5)) (evA (mC (.bl true)))
def chk2 : MS := mSeq chk2a (mSeq chk2b (mSeq chk2c (mFor (mSeqI (mV 4)) (gN 5) chk2e)))
theorem mb_checked_eq : mb_checked_files = mSeq (mIfS (evT (mIsN (mV 0))) (mRet (evA (mFz (fun _ => pure (.dct []))))) mNil) (mSeq (mIfS (evT (mNotT (mTru (mFun isiD (mCons (mV 0) (mCons (mC (.ty "dict")) (fun _ => pure []))))))) mStuck mNil)
    (mSeq (mFor (mLkI keysD (mV 0)) (gN 1) chk1) (mSeq (mNew 2 (evP (fun _ => pure (.dct [])))) (mSeq (mNew 3 (evP (fun _ => pure (.dct [])))) (mSeq (mFor (mLkI keysD (mV 0)) (gN 1) chk2) (mRet (evA (mV 0)))))))) := rfl
theorem put_ok {i : Nat} {ek ev : TauS → M D} {τ : TauS} {R : Sr} {d kd : D} {k : Key} {kvs : List (Key × D)} (h1 : ev τ R = some (d, R)) (h2 : ek τ R = some (kd, R)) (h3 : keyD kd = some k) (h4 : τ[i]? = some (some (.own (.dct kvs)))) (h5 : kvs.length ≤ 16000000) : mPut i ek ev τ R = .nx (τ.set i (some (.own (.dct (putD kvs k d))))) R := by
  unfold mPut
  rw [h1]
  dsimp only
  rw [h2]
  dsimp only
  rw [h3, h4]
  dsimp only
  rw [if_pos h5]
theorem put_loop (a0 a1 a2 a4 : Option Sv) (R : Sr) : ∀ (ss : List Str) (a5 : Option Sv) (kA : List (Key × D)) (P : Str → Prop) (n : Nat), DKs kA P n → n + ss.length ≤ 1000 → ∃ a5' kA', loopS (gN 5) chk2e (ss.map D.str) [a0, a1, a2, some (.own (.dct kA)), a4, a5] R = .nx [a0, a1, a2, some (.own (.dct kA')), a4, a5'] R ∧ DKs kA' (fun s => s ∈ ss ∨ P s) (n + ss.length)
  | [], a5, kA, P, n, h, _ => ⟨a5, kA, rfl, h.1, fun s => by rw [h.2 s]; simp⟩
  | x :: ss, a5, kA, P, n, h, hl => by
    have hl' : n + 1 + ss.length ≤ 1000 := by simp only [List.length_cons] at hl; omega
    obtain ⟨a5', kA', e, h'⟩ := put_loop a0 a1 a2 a4 R ss (some (.val (.str x))) (putD kA (.inr x) (.bl true)) _ (n + 1) (h.put x _) hl'
    refine ⟨a5', kA', ?_, ?_, fun s => ?_⟩
    · refine (loop_nx (us := [(5, .str x)]) (τ1 := [a0, a1, a2, some (.own (.dct kA)), a4, some (.val (.str x))]) rfl rfl ?_).trans e
      exact put_ok (k := .inr x) rfl rfl rfl rfl (by have := h.1; omega)
    · have := h'.1; simp only [List.length_cons]; omega
    · rw [h'.2 s]
      simp only [List.mem_cons]
      constructor
      · rintro (h | h | h)
        · exact .inl (.inr h)
        · exact .inl (.inl h)
        · exact .inr h
      · rintro ((h | h) | h)
        · exact .inr (.inl h)
        · exact .inl h
        · exact .inr (.inr h)
def hasB (kvs : List (Key × D)) : D → D | .str s => .bl (valD kvs (.inr s)).isSome | _ => .non
theorem bls_map (bs : List Bool) : blsD (bs.map D.bl) = some bs := by
  induction bs with
  | nil => rfl
  | cons b bs ih => simp [blsD, ih]
theorem mem_fols {l : List Str} {s : Str} : s ∈ fols l ↔ ∃ k, 1 ≤ k ∧ k < l.length ∧ s = J (l.take k) := by
  unfold fols
  simp only [List.mem_map, List.mem_range]
  constructor
  · rintro ⟨k, hk, rfl⟩
    exact ⟨k + 1, by omega, by omega, rfl⟩
  · rintro ⟨k, h1, h2, rfl⟩
    exact ⟨k - 1, by omega, by rw [show k - 1 + 1 = k by omega]⟩
theorem chk2_ok {F : FF} (h : GF F) (i : Nat) {f : List Str × Str} (hf : F[i]? = some f) (kS kA : List (Key × D)) (a4 a5 : Option Sv) (R : Sr) (hS : DKs kS (fun s => ∃ g ∈ F.take i, s = J g.1) i) (hA : DKs kA (fun s => ∃ g ∈ F.take i, s ∈ fols g.1) (3 * i)) :
    ∃ kS' kA' a4' a5', chk2 [some (.val (.dct (toK F))), some (.val (.str (J f.1))), some (.own (.dct kS)), some (.own (.dct kA)), a4, a5] R = .nx [some (.val (.dct (toK F))), some (.val (.str (J f.1))), some (.own (.dct kS')), some (.own (.dct kA')), a4', a5'] R ∧
      DKs kS' (fun s => ∃ g ∈ F.take (i + 1), s = J g.1) (i + 1) ∧ DKs kA' (fun s => ∃ g ∈ F.take (i + 1), s ∈ fols g.1) (3 * (i + 1)) := by
  have hm : f ∈ F := List.mem_of_getElem? hf
  have hi : i < F.length := (List.getElem?_eq_some_iff.mp hf).1
  have h8 := h.few
  have gp := h.gp f hm
  have ht : F.take (i + 1) = F.take i ++ [f] := by rw [List.take_add_one, hf]; rfl
  have nA : (valD kA (.inr (J f.1))).isSome = false := by
    cases e : (valD kA (.inr (J f.1))).isSome with
    | false => rfl
    | true =>
      obtain ⟨g, hg, hs⟩ := (hA.2 _).mp e
      obtain ⟨k, k1, k2, hk⟩ := mem_fols.mp hs
      exact absurd hk.symm (h.fold hm (List.mem_of_mem_take hg) k1 k2)
  have nS : ∀ s ∈ fols f.1, (valD kS (.inr s)).isSome = false := fun s hs => by
    cases e : (valD kS (.inr s)).isSome with
    | false => rfl
    | true =>
      obtain ⟨g, hg, rfl⟩ := (hS.2 _).mp e
      obtain ⟨k, k1, k2, hk⟩ := mem_fols.mp hs
      exact absurd hk.symm (h.fold (List.mem_of_mem_take hg) hm k1 k2)
  have e1 : chk2a [some (.val (.dct (toK F))), some (.val (.str (J f.1))), some (.own (.dct kS)), some (.own (.dct kA)), a4, a5] R = .nx [some (.val (.dct (toK F))), some (.val (.str (J f.1))), some (.own (.dct kS)), some (.own (.dct kA)), some (.val (.lst ((fols f.1).map D.str))), a5] R :=
    (set_of (us := [(4, .lst ((fols f.1).map D.str))]) (call_ok' (cons_ok rfl rfl) rfl (folders_ok gp R)) rfl).trans rfl
  have c1 : ∀ (x5 : Option D), mComp [5] (mSeqI (mV 4)) (gN 5) tYesM (asE (mCmp inD (mV 5) (mV 2))) [some (.dct (toK F)), some (.str (J f.1)), some (.dct kS), some (.dct kA), some (.lst ((fols f.1).map D.str)), x5] R = some (.lst (((fols f.1).map D.str).map (hasB kS)), R) := fun x5 => by
    refine comp_ok (ds := (fols f.1).map D.str) (R1 := R) rfl (comp_map _ fun d hd => ?_) ?_
    · obtain ⟨s, _, rfl⟩ := List.mem_map.mp hd
      exact asE_ok (cmp_ok (R1 := R) rfl rfl (in_dct kS s))
    · rw [List.length_map, List.length_map]
      unfold fols
      rw [List.length_map, List.length_range]
      have := gp.2.1
      omega
  have c2 : ((fols f.1).map D.str).map (hasB kS) = ((fols f.1).map fun _ => false).map D.bl := by
    rw [List.map_map, List.map_map]
    apply List.map_congr_left
    intro s hs
    show D.bl _ = D.bl false
    rw [nS s hs]
  have c3 : ((fols f.1).map fun _ => false).any id = false := by simp
  have e2 : chk2b [some (.val (.dct (toK F))), some (.val (.str (J f.1))), some (.own (.dct kS)), some (.own (.dct kA)), some (.val (.lst ((fols f.1).map D.str))), a5] R = .nx [some (.val (.dct (toK F))), some (.val (.str (J f.1))), some (.own (.dct kS)), some (.own (.dct kA)), some (.val (.lst ((fols f.1).map D.str))), a5] R := by
    refine (if_ff (R' := R) ?_).trans rfl
    refine or_ff (R1 := R) (cmp_ok (R1 := R) rfl rfl (by rw [in_dct, nA])) ?_
    refine tru_ok' (x := .bl false) (fun_okD (cons_ok (fz_ok (c1 _) rfl) rfl) ?_) rfl
    show (blsD (((fols f.1).map D.str).map (hasB kS))).map _ = _
    rw [c2, bls_map]
    show some (D.bl (((fols f.1).map fun _ => false).any id)) = _
    rw [c3]
  have e3 : chk2c [some (.val (.dct (toK F))), some (.val (.str (J f.1))), some (.own (.dct kS)), some (.own (.dct kA)), some (.val (.lst ((fols f.1).map D.str))), a5] R = .nx [some (.val (.dct (toK F))), some (.val (.str (J f.1))), some (.own (.dct (putD kS (.inr (J f.1)) (.bl true)))), some (.own (.dct kA)), some (.val (.lst ((fols f.1).map D.str))), a5] R :=
    put_ok (k := .inr (J f.1)) rfl rfl rfl rfl (by have := hS.1; omega)
  have fl : (fols f.1).length ≤ 3 := by
    unfold fols
    rw [List.length_map, List.length_range]
    have := gp.2.1
    omega
  obtain ⟨a5', kA', e4, hA'⟩ := put_loop (some (.val (.dct (toK F)))) (some (.val (.str (J f.1)))) (some (.own (.dct (putD kS (.inr (J f.1)) (.bl true))))) (some (.val (.lst ((fols f.1).map D.str)))) R (fols f.1) a5 kA _ _ hA (by omega)
  refine ⟨_, kA', _, a5', (seq_nx e1).trans ((seq_nx e2).trans ((seq_nx e3).trans ((for_of (ds := (fols f.1).map D.str) (R' := R) rfl).trans e4))), ?_, ?_⟩
  · have q := hS.put (J f.1) (.bl true)
    refine ⟨q.1, fun s => ?_⟩
    rw [q.2 s, ht]
    simp only [List.mem_append, List.mem_singleton]
    constructor
    · rintro (rfl | ⟨g, hg, rfl⟩)
      · exact ⟨f, .inr rfl, rfl⟩
      · exact ⟨g, .inl hg, rfl⟩
    · rintro ⟨g, hg | rfl, rfl⟩
      · exact .inr ⟨g, hg, rfl⟩
      · exact .inl rfl
  · refine ⟨by have := hA'.1; omega, fun s => ?_⟩
    rw [hA'.2 s, ht]
    simp only [List.mem_append, List.mem_singleton]
    constructor
    · rintro (hs | ⟨g, hg, hs⟩)
      · exact ⟨f, .inr rfl, hs⟩
      · exact ⟨g, .inl hg, hs⟩
    · rintro ⟨g, hg | rfl, hs⟩
      · exact .inr ⟨g, hg, hs⟩
      · exact .inl hs
theorem checked_ok {F : FF} (h : GF F) (R : Sr) : mf_checked_files [.dct (toK F)] R = some (.dct (toK F), R) := by
  refine def_rt ?_
  show mb_checked_files [some (.val (.dct (toK F))), none, none, none, none, none] R = _
  rw [mb_checked_eq]
  refine (seq_nx (τ' := [some (.val (.dct (toK F))), none, none, none, none, none]) (R' := R) rfl).trans ?_
  refine (seq_nx (τ' := [some (.val (.dct (toK F))), none, none, none, none, none]) (R' := R) ((if_ff (R' := R) (not_ok' (b := true) (tru_ok' (fun_okD (cons_ok rfl (cons_ok rfl rfl)) (isi_dct _)) rfl))).trans rfl)).trans ?_
  have k1 : mLkI keysD (mV 0) (viewA [some (.val (.dct (toK F))), none, none, none, none, none]) R = some (F.map fun f => .str (J f.1), R) := by
    rw [← keys_toK]; rfl
  obtain ⟨τ1, R1, e1, s, rfl, rfl⟩ := loop_inv (g := gN 1) (mb := chk1) (fun _ τ R' => ∃ s, τ = [some (.val (.dct (toK F))), s, none, none, none, none] ∧ R = R') (F.map fun f => .str (J f.1)) 0 (fun i d τ R' hd hI => by
    obtain ⟨s, rfl, rfl⟩ := hI
    rw [List.getElem?_map] at hd
    cases hf : F[i]? with
    | none => rw [hf] at hd; cases hd
    | some f =>
      rw [hf] at hd
      cases hd
      exact ⟨[(1, .str (J f.1))], _, _, rfl, chk1_ok h (List.mem_of_getElem? hf) _, _, rfl, rfl⟩) [some (.val (.dct (toK F))), none, none, none, none, none] R ⟨none, rfl, rfl⟩
  refine (seq_nx ((for_of k1).trans e1)).trans ?_
  refine (seq_nx (τ' := [some (.val (.dct (toK F))), s, some (.own (.dct [])), none, none, none]) (R' := R) rfl).trans ?_
  refine (seq_nx (τ' := [some (.val (.dct (toK F))), s, some (.own (.dct [])), some (.own (.dct [])), none, none]) (R' := R) rfl).trans ?_
  have k2 : mLkI keysD (mV 0) (viewA [some (.val (.dct (toK F))), s, some (.own (.dct [])), some (.own (.dct [])), none, none]) R = some (F.map fun f => .str (J f.1), R) := by
    rw [← keys_toK]; rfl
  obtain ⟨τ2, R2, e2, hI2⟩ := loop_inv (g := gN 1) (mb := chk2) (fun i τ R' => ∃ s1 kS kA a4 a5, τ = [some (.val (.dct (toK F))), s1, some (.own (.dct kS)), some (.own (.dct kA)), a4, a5] ∧ R = R' ∧ DKs kS (fun s => ∃ g ∈ F.take i, s = J g.1) i ∧ DKs kA (fun s => ∃ g ∈ F.take i, s ∈ fols g.1) (3 * i)) (F.map fun f => .str (J f.1)) 0 (fun i d τ R' hd hI => by
    obtain ⟨s1, kS, kA, a4, a5, rfl, rfl, hS, hA⟩ := hI
    rw [List.getElem?_map] at hd
    rw [Nat.zero_add] at hS hA ⊢
    cases hf : F[i]? with
    | none => rw [hf] at hd; cases hd
    | some f =>
      rw [hf] at hd
      cases hd
      obtain ⟨kS', kA', a4', a5', e, q1, q2⟩ := chk2_ok h i hf kS kA a4 a5 R hS hA
      exact ⟨[(1, .str (J f.1))], _, _, rfl, e, _, kS', kA', a4', a5', rfl, rfl, q1, q2⟩) [some (.val (.dct (toK F))), s, some (.own (.dct [])), some (.own (.dct [])), none, none] R
    ⟨s, [], [], none, none, rfl, rfl, ⟨Nat.le_refl _, fun s => by simp [valD]⟩, ⟨Nat.le_refl _, fun s => by simp [valD]⟩⟩
  obtain ⟨s1, kS, kA, a4, a5, rfl, rfl, _, _⟩ := hI2
  exact (seq_nx ((for_of k2).trans e2)).trans (ret_of rfl)
end K2
set_option Elab.async false
set_option linter.all false
set_option maxRecDepth 100000
set_option maxHeartbeats 1000000
namespace K2
open PySem PySem.Spec PyProof.Rows L2 Nb RZ
/-! ### a dict of lists -/
def lookL (kvs : List (Str × List D)) (s : Str) : Option (List D) := (kvs.find? fun kv => decide (kv.1 = s)).map (·.2)
theorem look_cons (q : Str × List D) (r : List (Str × List D)) (s : Str) : lookL (q :: r) s = if q.1 = s then some q.2 else lookL r s := by
  unfold lookL
  by_cases e : q.1 = s
  · simp [e]
  · simp [e]
theorem look_add (kvs : List (Str × List D)) (s x : Str) : lookL (addDl kvs s) x = if x = s then some ((lookL kvs s).getD []) else lookL kvs x := by
  unfold addDl
  split
  · rename_i h
    obtain ⟨p, hp, hk⟩ := List.any_eq_true.mp h
    have hk : p.1 = s := of_decide_eq_true hk
    by_cases e : x = s
    · subst e
      rw [if_pos rfl]
      cases z : lookL kvs x with
      | some v => rfl
      | none =>
        unfold lookL at z
        have := List.find?_eq_none.mp (Option.map_eq_none_iff.mp z) p hp
        simp [hk] at this
    · rw [if_neg e]
  · rename_i h
    have hn : ∀ q ∈ kvs, q.1 ≠ s := fun q hq z => h (List.any_eq_true.mpr ⟨q, hq, decide_eq_true z⟩)
    clear h
    induction kvs with
    | nil =>
      rw [List.nil_append, look_cons]
      by_cases e : x = s
      · subst e; simp [lookL]
      · have : ¬ s = x := fun z => e z.symm
        simp [this, e]
    | cons q r ih =>
      have h1 := hn q List.mem_cons_self
      have ih := ih fun u hu => hn u (List.mem_cons_of_mem _ hu)
      rw [List.cons_append, look_cons, ih, look_cons, look_cons, if_neg h1]
      by_cases e : q.1 = x
      · rw [if_pos e, if_pos e, if_neg (fun z => h1 (e.trans z))]
      · rw [if_neg e, if_neg e]
theorem look_app (kvs : List (Str × List D)) (s : Str) (d : D) (x : Str) : lookL (appDl kvs s d) x = if x = s then (lookL kvs s).map (· ++ [d]) else lookL kvs x := by
  unfold appDl
  induction kvs with
  | nil => simp [lookL]
  | cons q r ih =>
    rw [List.map_cons, look_cons, ih, look_cons, look_cons]
    by_cases e1 : q.1 = s
    · rw [if_pos e1]
      by_cases e2 : x = s
      · subst e2
        simp [e1]
      · have : ¬ q.1 = x := fun z => e2 (z.symm.trans e1)
        simp [this, e2]
    · rw [if_neg e1]
      by_cases e2 : x = s
      · subst e2
        simp [e1]
      · simp [e2]
theorem addDl_len (kvs : List (Str × List D)) (s : Str) : (addDl kvs s).length ≤ kvs.length + 1 := by
  unfold addDl
  split
  · omega
  · rw [List.length_append]; simp
/-- the pairs that were put in, in their order -/
def marksOf (P : List (Str × Str)) (s : Str) : List Str := (P.filter fun p => decide (p.1 = s)).map (·.2)
structure Rp (kvs : List (Str × List D)) (P : List (Str × Str)) : Prop where
  look : ∀ s, lookL kvs s = if marksOf P s = [] then none else some ((marksOf P s).map D.str)
  len : kvs.length ≤ P.length
  lens : ∀ kv ∈ kvs, kv.2.length ≤ P.length
theorem marks_snoc (P : List (Str × Str)) (s m x : Str) : marksOf (P ++ [(s, m)]) x = if x = s then marksOf P x ++ [m] else marksOf P x := by
  unfold marksOf
  rw [List.filter_append, List.map_append]
  by_cases e : x = s
  · subst e; simp
  · have : ¬ s = x := fun z => e z.symm
    simp [this, e]
theorem Rp.nil : Rp [] [] := ⟨fun s => by simp [lookL, marksOf], Nat.le_refl _, fun _ h => nomatch h⟩
theorem Rp.put {kvs : List (Str × List D)} {P : List (Str × Str)} (h : Rp kvs P) (s m : Str) : Rp (appDl (addDl kvs s) s (.str m)) (P ++ [(s, m)]) := by
  refine ⟨fun x => ?_, ?_, fun kv hkv => ?_⟩
  · rw [look_app, marks_snoc]
    by_cases e : x = s
    · subst e
      rw [if_pos rfl, if_pos rfl, look_add, if_pos rfl, if_neg (by simp), h.look]
      by_cases z : marksOf P x = []
      · simp [z]
      · simp [z]
    · rw [if_neg e, if_neg e, look_add, if_neg e, h.look]
  · unfold appDl
    rw [List.length_map, List.length_append]
    have := addDl_len kvs s
    have := h.len
    simp only [List.length_singleton]
    omega
  · unfold appDl at hkv
    obtain ⟨q, hq, rfl⟩ := List.mem_map.mp hkv
    have hq2 : q.2.length ≤ P.length := by
      unfold addDl at hq
      split at hq
      · exact h.lens q hq
      · rcases List.mem_append.mp hq with hq | hq
        · exact h.lens q hq
        · rw [List.mem_singleton.mp hq]; simp
    rw [List.length_append, List.length_singleton]
    split
    · rw [List.length_append, List.length_singleton]; omega
    · omega
theorem dl_ok {i : Nat} {ek ev : TauS → M D} {τ : TauS} {R : Sr} {s m : Str} {kvs : List (Str × List D)} {P : List (Str × Str)} (h : Rp kvs P) (hP : P.length ≤ 1000) (h1 : ek τ R = some (.str s, R)) (h4 : τ[i]? = some (some (.own (.dl kvs)))) (h2 : ev (τ.set i (some (.own (.dl (addDl kvs s))))) R = some (.str m, R)) :
    mDl i ek ev τ R = .nx (τ.set i (some (.own (.dl (appDl (addDl kvs s) s (.str m)))))) R := by
  have c : kvs.length ≤ 16000000 ∧ (kvs.all fun kv => decide (kv.2.length ≤ 16000000)) = true := by
    refine ⟨by have := h.len; omega, List.all_eq_true.mpr fun kv hkv => decide_eq_true ?_⟩
    have := h.lens kv hkv
    omega
  unfold mDl
  rw [h1]
  dsimp only
  rw [h4]
  dsimp only
  rw [h2]
  dsimp only
  rw [if_pos c]
/-! ### the folders' marks -/
def stroke (l : List Str) (k : Nat) : Str := if k + 2 < l.length then "/" else ""
def mark (l : List Str) (k : Nat) : Str := l.getD (k + 1) "" ++ stroke l k
def prs (l : List Str) : List (Str × Str) := (List.range (l.length - 1)).map fun k => (J (l.take (k + 1)), mark l k)
def inner (l : List Str) : List Str := (List.range (l.length - 1)).map fun k => J (l.take (k + 2))
theorem fols_at {l : List Str} {k : Nat} (h : k < l.length - 1) : (fols l)[k]? = some (J (l.take (k + 1))) := by
  unfold fols
  rw [List.getElem?_map, List.getElem?_range h]
  rfl
theorem inner_eq {l : List Str} (h : 2 ≤ l.length) : (fols l).drop 1 ++ [J l] = inner l := by
  unfold fols inner
  obtain ⟨n, hn⟩ : ∃ n, l.length = n + 2 := ⟨l.length - 2, by omega⟩
  rw [hn]
  apply List.ext_getElem?
  intro i
  have e1 : n + 2 - 1 = n + 1 := by omega
  rw [e1, List.getElem?_map]
  by_cases hi : i < n
  · rw [List.getElem?_append_left (by simp; omega), List.getElem?_drop, List.getElem?_map, List.getElem?_range (by omega), List.getElem?_range (by omega)]
    simp only [Option.map_some]
    rw [show 1 + i + 1 = i + 2 by omega]
  · by_cases h2 : i = n
    · subst h2
      rw [List.getElem?_append_right (by simp), List.getElem?_range (by omega)]
      simp only [List.length_drop, List.length_map, List.length_range, Option.map_some]
      rw [show i - (i + 1 - 1) = 0 by omega, List.getElem?_cons_zero, ← hn, List.take_length]
    · rw [List.getElem?_append_right (by simp; omega), List.getElem?_eq_none (by simp; omega), List.getElem?_eq_none (by simp; omega)]
      rfl
def inb : MS := mSeq (mSet (gN 7) (evA (mIf (mCmp ltD (mV 5) (mOp subI (mFun lenD (mCons (mV 3) (fun _ => pure []))) (mC (.int 1)))) (mC (.str "/")) (mC (.str ""))))) (mDl 1 (evA (mV 6)) (evA (mOp addD (mSl (mOp subD (mV 4) (mV 5)) (mPart (mOp addD (mFun lenD (mCons (mV 6) (fun _ => pure []))) (mC (.int 1)))) mNo) (mV 7))))
def fbody : MS := mSeq (mSet (gN 3) (evA (mCall 1 [] mf_folders_above (mCons (mV 2) (fun _ => pure []))))) (mSeq (mSet (gN 4) (evA (mOp addD (mSl (mV 3) (mPart (mC (.int 1))) mNo) (mLst (mCons (mV 2) (fun _ => pure [])))))) (mFor (mFunI enumF (mCons (mV 3) (fun _ => pure []))) (gT 2 (gsC (gN 5) (gsC (gN 6) gs0))) inb))
theorem if_val {mt : Tau → M Bool} {ma mb : ME} {τ : Tau} {R R1 R2 : Sr} {b : Bool} {d : D} (h : mt τ R = some (b, R1)) (k : (if b then ma else mb) τ R1 = some (d, R2)) : mIf mt ma mb τ R = some (d, R2) := by
  refine (bind_ok h).trans ?_
  cases b with
  | true => exact k
  | false => exact k
theorem inb_ok {l : List Str} (h : GP l) {k : Nat} (hk : k < l.length - 1) {kvs : List (Str × List D)} {P : List (Str × Str)} (hP : Rp kvs P) (hl : P.length ≤ 1000) (a0 a7 : Option Sv) (R : Sr) :
    inb [a0, some (.own (.dl kvs)), some (.val (.str (J l))), some (.val (.lst ((fols l).map D.str))), some (.val (.lst ((inner l).map D.str))), some (.val (.int (k : Int))), some (.val (.str (J (l.take (k + 1))))), a7] R =
      .nx [a0, some (.own (.dl (appDl (addDl kvs (J (l.take (k + 1)))) (J (l.take (k + 1))) (.str (mark l k))))), some (.val (.str (J l))), some (.val (.lst ((fols l).map D.str))), some (.val (.lst ((inner l).map D.str))), some (.val (.int (k : Int))), some (.val (.str (J (l.take (k + 1))))), some (.val (.str (stroke l k)))] R := by
  have l4 := h.2.1
  have fl : (fols l).length = l.length - 1 := by unfold fols; rw [List.length_map, List.length_range]
  have gt : GP (l.take (k + 1)) := ⟨by rw [List.length_take]; omega, by rw [List.length_take]; omega, take_nm h.2.2 _⟩
  have gt2 : GP (l.take (k + 2)) := ⟨by rw [List.length_take]; omega, by rw [List.length_take]; omega, take_nm h.2.2 _⟩
  have t1 : (J (l.take (k + 1))).length ≤ sizeLine := by have := gt.len; rw [sizeLine_eq]; omega
  have t2 : (J (l.take (k + 2))).length ≤ sizeLine := by have := gt2.len; rw [sizeLine_eq]; omega
  obtain ⟨x, hx⟩ : ∃ x, l[k + 1]? = some x := ⟨_, List.getElem?_eq_getElem (by omega)⟩
  have hx2 : l.getD (k + 1) "" = x := by rw [List.getD_eq_getElem?_getD, hx]; rfl
  have tk : l.take (k + 2) = l.take (k + 1) ++ [x] := by rw [List.take_add_one, hx]; rfl
  have xn := h.2.2 x (List.mem_of_getElem? hx)
  have cr : cutS (J (l.take (k + 2))) (some (((J (l.take (k + 1))).length : Int) + 1)) none = x := by
    rw [tk, cut_rest gt.ne (by simp)]
    rfl
  have e1 : mSet (gN 7) (evA (mIf (mCmp ltD (mV 5) (mOp subI (mFun lenD (mCons (mV 3) (fun _ => pure []))) (mC (.int 1)))) (mC (.str "/")) (mC (.str "")))) [a0, some (.own (.dl kvs)), some (.val (.str (J l))), some (.val (.lst ((fols l).map D.str))), some (.val (.lst ((inner l).map D.str))), some (.val (.int (k : Int))), some (.val (.str (J (l.take (k + 1))))), a7] R =
      .nx [a0, some (.own (.dl kvs)), some (.val (.str (J l))), some (.val (.lst ((fols l).map D.str))), some (.val (.lst ((inner l).map D.str))), some (.val (.int (k : Int))), some (.val (.str (J (l.take (k + 1))))), some (.val (.str (stroke l k)))] R := by
    refine (set_of (us := [(7, .str (stroke l k))]) (R' := R) (if_val (b := decide ((k : Int) < ((fols l).length : Int) - 1)) (R1 := R) (cmp_ok (R1 := R) rfl (op_ok (R1 := R) (x := .int (fols l).length) (fun_okD (cons_ok rfl rfl) (by rw [len_lst, List.length_map])) rfl rfl) rfl) ?_) rfl).trans rfl
    unfold stroke
    by_cases c : k + 2 < l.length
    · rw [decide_eq_true (by omega), if_pos rfl, if_pos c]; rfl
    · rw [decide_eq_false (by omega), if_neg (by decide), if_neg c]; rfl
  have sl : (stroke l k).length ≤ 1 := by
    unfold stroke
    split
    · decide +kernel
    · decide +kernel
  refine (seq_nx e1).trans ?_
  refine (dl_ok hP hl (s := J (l.take (k + 1))) (m := mark l k) rfl rfl ?_).trans rfl
  have ai : ixD (.lst ((inner l).map D.str)) (.int (k : Int)) = some (.str (J (l.take (k + 2)))) := by
    show L2.atI ((inner l).map D.str) (k : Int) = _
    unfold L2.atI inner
    have il : (((List.range (l.length - 1)).map fun k => J (l.take (k + 2))).map D.str).length = l.length - 1 := by simp
    rw [il]
    have : ixN (l.length - 1) (k : Int) = some k := by unfold ixN; rw [if_pos (by omega), if_pos (by omega)]; simp
    rw [this]
    simp [hk]
  have xl := nm_len xn
  refine op_ok (x := .str x) (y := .str (stroke l k)) (R1 := R) (R2 := R) ?_ rfl ?_
  · refine (bind_ok (a := .str (J (l.take (k + 2)))) (s1 := R) (op_ok rfl rfl ?_)).trans ?_
    · show orF ixD dgetD _ _ = _
      unfold orF
      rw [ai]
      rfl
    refine (bind_ok (a := some (((J (l.take (k + 1))).length : Int) + 1)) (s1 := R) ?_).trans ?_
    · refine (bind_ok (a := .int (((J (l.take (k + 1))).length : Int) + 1)) (s1 := R) (op_ok (x := .int (J (l.take (k + 1))).length) (R1 := R) (fun_okD (cons_ok rfl rfl) ?_) rfl rfl)).trans rfl
      simp [lenD, orL, lenV, t1]
    refine (bind_ok (a := none) (s1 := R) rfl).trans ?_
    show (slD (.str (J (l.take (k + 2)))) (some (((J (l.take (k + 1))).length : Int) + 1)) none).map (fun a => (a, R)) = _
    unfold slD
    dsimp only
    rw [if_pos t2, cr]
    rfl
  · show orF addI (orF addS (orF addL addT)) (.str x) (.str (stroke l k)) = _
    have : x.length + (stroke l k).length ≤ sizeLine := by rw [sizeLine_eq]; omega
    have hm : mark l k = x ++ stroke l k := by unfold mark; rw [hx2]
    rw [hm]
    simp [orF, addI, addS, this]
theorem fbody_ok {l : List Str} (h : GP l) (h3 : l.length ≤ 3) {kvs : List (Str × List D)} {P : List (Str × Str)} (hP : Rp kvs P) (hl : P.length + 3 ≤ 1000) (a0 a3 a4 a5 a6 a7 : Option Sv) (R : Sr) :
    ∃ kvs' a3' a4' a5' a6' a7', fbody [a0, some (.own (.dl kvs)), some (.val (.str (J l))), a3, a4, a5, a6, a7] R = .nx [a0, some (.own (.dl kvs')), some (.val (.str (J l))), a3', a4', a5', a6', a7'] R ∧ Rp kvs' (P ++ prs l) := by
  have l4 := h.2.1
  have fl : (fols l).length = l.length - 1 := by unfold fols; rw [List.length_map, List.length_range]
  have e1 : mSet (gN 3) (evA (mCall 1 [] mf_folders_above (mCons (mV 2) (fun _ => pure [])))) [a0, some (.own (.dl kvs)), some (.val (.str (J l))), a3, a4, a5, a6, a7] R = .nx [a0, some (.own (.dl kvs)), some (.val (.str (J l))), some (.val (.lst ((fols l).map D.str))), a4, a5, a6, a7] R :=
    (set_of (us := [(3, .lst ((fols l).map D.str))]) (call_ok' (cons_ok rfl rfl) rfl (folders_ok h R)) rfl).trans rfl
  have e2 : ∃ ds : List D, (2 ≤ l.length → ds = (inner l).map D.str) ∧ mSet (gN 4) (evA (mOp addD (mSl (mV 3) (mPart (mC (.int 1))) mNo) (mLst (mCons (mV 2) (fun _ => pure []))))) [a0, some (.own (.dl kvs)), some (.val (.str (J l))), some (.val (.lst ((fols l).map D.str))), a4, a5, a6, a7] R = .nx [a0, some (.own (.dl kvs)), some (.val (.str (J l))), some (.val (.lst ((fols l).map D.str))), some (.val (.lst ds)), a5, a6, a7] R := by
    refine ⟨((fols l).map D.str).drop 1 ++ [.str (J l)], fun h2 => ?_, ?_⟩
    · rw [← inner_eq h2, List.map_append, List.map_drop]
      rfl
    · refine (set_of (us := [(4, .lst (((fols l).map D.str).drop 1 ++ [.str (J l)]))]) (op_ok (x := .lst (((fols l).map D.str).drop 1)) (y := .lst [.str (J l)]) (R1 := R) (R2 := R) ?_ rfl ?_) rfl).trans rfl
      · refine (bind_ok (a := .lst ((fols l).map D.str)) (s1 := R) rfl).trans ?_
        refine (bind_ok (a := some 1) (s1 := R) rfl).trans ?_
        refine (bind_ok (a := none) (s1 := R) rfl).trans ?_
        show some (D.lst (cutG ((fols l).map D.str) (some ((1 : Nat) : Int)) none), R) = _
        rw [cutG_from]
      · show orF addI (orF addS (orF addL addT)) _ _ = _
        have : (((fols l).map D.str).drop 1).length + ([D.str (J l)] : List D).length ≤ sizeLine := by
          rw [List.length_drop, List.length_map, sizeLine_eq]
          simp
          omega
        simp only [orF, addI, addS, addL, if_pos this]
        rfl
  obtain ⟨ds, hds, e2⟩ := e2
  have e3 : mFunI enumF (mCons (mV 3) (fun _ => pure [])) (viewA [a0, some (.own (.dl kvs)), some (.val (.str (J l))), some (.val (.lst ((fols l).map D.str))), some (.val (.lst ds)), a5, a6, a7]) R = some (enumD ((fols l).map D.str), R) := funI_ok (cons_ok rfl rfl) rfl
  obtain ⟨τ1, R1, e4, kvs', a5', a6', a7', rfl, rfl, hP'⟩ := loop_inv (g := gT 2 (gsC (gN 5) (gsC (gN 6) gs0))) (mb := inb) (fun i τ R' => ∃ kvs' a5' a6' a7', τ = [a0, some (.own (.dl kvs')), some (.val (.str (J l))), some (.val (.lst ((fols l).map D.str))), some (.val (.lst ds)), a5', a6', a7'] ∧ R = R' ∧ Rp kvs' (P ++ (prs l).take i))
    (enumD ((fols l).map D.str)) 0 (fun i d τ R' hd hI => by
      obtain ⟨kvs', a5', a6', a7', rfl, rfl, q⟩ := hI
      rw [Nat.zero_add] at q ⊢
      unfold enumD at hd
      rw [List.getElem?_mapIdx, List.getElem?_map] at hd
      have hi : i < l.length - 1 := by
        cases z : (fols l)[i]? with
        | none => rw [z] at hd; cases hd
        | some y => have := (List.getElem?_eq_some_iff.mp z).1; omega
      rw [fols_at hi] at hd
      cases hd
      have q2 : (P ++ (prs l).take i).length ≤ 1000 := by
        rw [List.length_append, List.length_take]
        unfold prs
        rw [List.length_map, List.length_range]
        omega
      have hd2 := hds (by omega)
      subst hd2
      refine ⟨[(5, .int (i : Int)), (6, .str (J (l.take (i + 1))))], _, R, rfl, inb_ok h hi q q2 a0 a7' R, _, _, _, _, rfl, rfl, ?_⟩
      have ht : (prs l).take (i + 1) = (prs l).take i ++ [(J (l.take (i + 1)), mark l i)] := by
        rw [List.take_add_one]
        congr 1
        unfold prs
        rw [List.getElem?_map, List.getElem?_range hi]
        rfl
      rw [ht, ← List.append_assoc]
      exact q.put _ _) [a0, some (.own (.dl kvs)), some (.val (.str (J l))), some (.val (.lst ((fols l).map D.str))), some (.val (.lst ds)), a5, a6, a7] R ⟨kvs, a5, a6, a7, rfl, rfl, by simpa using hP⟩
  refine ⟨kvs', _, _, _, _, _, (seq_nx e1).trans ((seq_nx e2).trans ((for_of e3).trans e4)), ?_⟩
  have : (prs l).take (0 + (enumD ((fols l).map D.str)).length) = prs l := by
    apply List.take_of_length_le
    unfold enumD prs
    rw [List.length_map, List.length_range, List.length_mapIdx, List.length_map, fl]
    omega
  rw [this] at hP'
  exact hP'
end K2
set_option Elab.async false
set_option linter.all false
set_option maxRecDepth 100000
set_option maxHeartbeats 1000000
namespace K2
open PySem PySem.Spec PyProof.Rows L2 Nb RZ
def foldP (val : Str → D) (ss : List Str) (acc : List (Key × D)) : List (Key × D) := ss.foldl (fun a s => putD a (.inr s) (val s)) acc
theorem dcomp_map {i : Nat} {mv : ME} {τ : Tau} {R : Sr} {val : Str → D} (hi : i < τ.length) : ∀ (ss : List Str) (acc : List (Key × D)), (∀ s ∈ ss, mv (τ.set i (some (.str s))) R = some (val s, R)) → dcompS (gN i) tYesM (mV i) mv [i] τ (ss.map D.str) acc R = some (foldP val ss acc, R)
  | [], acc, _ => rfl
  | s :: ss, acc, h => by
    have ih := dcomp_map hi ss (putD acc (.inr s) (val s)) fun t ht => h t (List.mem_cons_of_mem _ ht)
    have hs := h s List.mem_cons_self
    have c1 : (opt (if ([(i, D.str s)] : List (Nat × D)).all (fun p => ([i] : List Nat).contains p.1) then some [(i, D.str s)] else none) : M (List (Nat × D))) R = some ([(i, D.str s)], R) := by
      simp [opt]
    have k1 : mV i (τ.set i (some (.str s))) R = some (.str s, R) := mV_ok (List.getElem?_set_self hi)
    rw [List.map_cons]
    refine (bind_ok (a := [(i, D.str s)]) (s1 := R) rfl).trans ?_
    refine (bind_ok c1).trans ?_
    refine (bind_ok (a := true) (s1 := R) rfl).trans ?_
    refine (bind_ok (a := putD acc (.inr s) (val s)) (s1 := R) ((bind_ok k1).trans ((bind_ok hs).trans ((bind_ok (a := Sum.inr s) (s1 := R) rfl).trans rfl)))).trans ?_
    exact ih
theorem foldP_val (val : Str → D) : ∀ (ss : List Str) (acc : List (Key × D)) (x : Str), valD (foldP val ss acc) (.inr x) = if x ∈ ss then some (val x) else valD acc (.inr x)
  | [], acc, x => by simp [foldP]
  | s :: ss, acc, x => by
    show valD (foldP val ss (putD acc (.inr s) (val s))) (.inr x) = _
    rw [foldP_val val ss, val_put]
    by_cases e : x = s
    · subst e
      by_cases h : x ∈ ss
      · simp [h]
      · simp [h]
    · have : ¬ (Sum.inr x : Key) = Sum.inr s := fun z => e (Sum.inr.inj z)
      simp [e]
theorem foldP_len (val : Str → D) : ∀ (ss : List Str) (acc : List (Key × D)), (foldP val ss acc).length ≤ acc.length + ss.length
  | [], acc => Nat.le_refl _
  | s :: ss, acc => by
    have h := foldP_len val ss (putD acc (.inr s) (val s))
    have h2 := put_len acc (.inr s) (val s)
    show (foldP val ss (putD acc (.inr s) (val s))).length ≤ _
    rw [List.length_cons]
    omega
theorem mDcomp_ok {i : Nat} {mi : Tau → M (List D)} {mv : ME} {τ : Tau} {R : Sr} {ss : List Str} {val : Str → D} (hi : i < τ.length) (h : mi τ R = some (ss.map D.str, R)) (hl : ss.length ≤ 1000) (hv : ∀ s ∈ ss, mv ((τ.set i none).set i (some (.str s))) R = some (val s, R)) :
    mDcomp [i] mi (gN i) tYesM (mV i) mv τ R = some (.dct (foldP val ss []), R) := by
  refine (bind_ok h).trans ?_
  refine (bind_ok (dcomp_map (τ := τ.set i none) (by rw [List.length_set]; exact hi) ss [] hv)).trans ?_
  have := foldP_len val ss []
  simp only [List.length_nil] at this
  rw [opt_ap, if_pos (by omega)]
  rfl
/-! ### the folders of files -/
def PF (F : FF) : List (Str × Str) := F.flatMap fun f => prs f.1
theorem PF_len {F : FF} (h : ∀ f ∈ F, f.1.length ≤ 3) : (PF F).length ≤ 2 * F.length := by
  induction F with
  | nil => exact Nat.le_refl _
  | cons f F ih =>
    have h1 := ih fun g hg => h g (List.mem_cons_of_mem _ hg)
    have h2 := h f List.mem_cons_self
    show (prs f.1 ++ PF F).length ≤ _
    rw [List.length_append, List.length_cons]
    have : (prs f.1).length ≤ 2 := by unfold prs; rw [List.length_map, List.length_range]; omega
    omega
def FDv (F : FF) (s : Str) : D := .tup ((srt (dedupS (marksOf (PF F) s))).map D.str)
def lastMe : ME := mFun tupF (mCons (mFz (mFunO sortSO (mCons (mOp subD (mV 1) (mV 6)) fun _ => pure []))) (fun _ => pure []))
def lastMi : Tau → M (List D) := mSeqI (mFz (mFunO sortO (mCons (mFz (mFunO listO3 (mCons (mV 1) (fun _ => pure [])))) (fun _ => pure []))))
theorem mb_folders_eq : mb_folders_of = mSeq (mNew 1 (evP fun _ => pure (.dl []))) (mSeq (mFor (mLkI keysD (mV 0)) (gN 2) fbody) (mFrzDl 1 (mRetO (evP (mDcomp [6] lastMi (gN 6) tYesM (mV 6) lastMe))))) := rfl
theorem val_dl (kvs : List (Str × List D)) (s : Str) : valD (dlD kvs) (.inr s) = (lookL kvs s).map D.lst := by
  unfold valD dlD lookL
  rw [List.find?_map, Option.map_map, Option.map_map]
  have e : ((fun kv : Key × D => decide (kv.1 = Sum.inr s)) ∘ fun kv : Str × List D => ((Sum.inr kv.1 : Key), D.lst kv.2)) = fun kv => decide (kv.1 = s) := by
    funext f
    by_cases h : f.1 = s
    · simp [h]
    · simp [h]
  rw [e]
  rfl
theorem funO_okD {f : List D → Option Own} {ms : Tau → M (List D)} {τ : Tau} {R R1 : Sr} {xs : List D} {ob : Own} (h : ms τ R = some (xs, R1)) (e : f xs = some ob) : mFunO f ms τ R = some (ob, R1) := (bind_ok h).trans (by rw [opt_ap, e]; rfl)
theorem sort_lst {xs : List Str} (h : xs.length < 64) : sortO [.lst (xs.map D.str)] = some (.lst ((srt xs).map D.str)) := by
  show ((strsD (xs.map D.str)).bind fun xs => if xs.length < 64 then some (Own.lst ((srt xs).map D.str)) else none).or _ = _
  rw [strsD_map, Option.bind_some, if_pos h]
  rfl
theorem srt_len (xs : List Str) : (srt xs).length = xs.length := (srt_perm xs).length_eq
theorem srt_mem {xs : List Str} {x : Str} : x ∈ srt xs ↔ x ∈ xs := (srt_perm xs).mem_iff
theorem marks_len (P : List (Str × Str)) (s : Str) : (marksOf P s).length ≤ P.length := by
  unfold marksOf
  rw [List.length_map]
  exact List.length_filter_le _ _
theorem dedup_len : ∀ xs : List Str, (dedupS xs).length ≤ xs.length
  | [] => Nat.le_refl _
  | x :: r => by
    have := dedup_len r
    unfold dedupS
    split
    · rw [List.length_cons]; omega
    · rw [List.length_cons, List.length_cons]; omega
theorem defO_ro {N : Nat} {mb : MS} {ds : List D} {R R' : Sr} {ob : Own} (h : mb (startD N ds) R = .ro ob R') : mDefO N mb ds R = some (ob, R') := by unfold mDefO; rw [h]
theorem retO_of {ev : TauS → M Own} {τ : TauS} {R R' : Sr} {ob : Own} (h : ev τ R = some (ob, R')) : mRetO ev τ R = .ro ob R' := by unfold mRetO; rw [h]
theorem callO_ok {n : Nat} {mf : List D → M Own} {ms : Tau → M (List D)} {τ : Tau} {R R1 R' : Sr} {xs : List D} {ob : Own} (h : ms τ R = some (xs, R1)) (hl : xs.length = n) (k : mf xs R1 = some (ob, R')) : mCallO n [] mf ms τ R = some (ob, R') := by
  refine (bind_ok h).trans ?_
  rw [if_pos (by simpa using hl)]
  simpa using k
theorem folders_of_ok {F : FF} (h : GF F) (R : Sr) : ∃ ss, mf_folders_of [.dct (toK F)] R = some (.dct (foldP (FDv F) ss []), R) ∧ ∀ s, valD (foldP (FDv F) ss []) (.inr s) = if marksOf (PF F) s = [] then none else some (FDv F s) := by
  have pl := PF_len h.l3
  have h8 := h.few
  have k1 : ∀ s1 s2 s3 s4 s5 s6 : Option Sv, mLkI keysD (mV 0) (viewA [some (.val (.dct (toK F))), some (.own (.dl [])), s1, s2, s3, s4, s5, s6]) R = some (F.map fun f => .str (J f.1), R) := fun _ _ _ _ _ _ => by
    rw [← keys_toK]; rfl
  obtain ⟨τ1, R1, e1, kvs, a2, a3, a4, a5, a6, a7, rfl, rfl, q⟩ := loop_inv (g := gN 2) (mb := fbody) (fun i τ R' => ∃ kvs a2 a3 a4 a5 a6 a7, τ = [some (.val (.dct (toK F))), some (.own (.dl kvs)), a2, a3, a4, a5, a6, a7] ∧ R = R' ∧ Rp kvs (PF (F.take i)))
    (F.map fun f => .str (J f.1)) 0 (fun i d τ R' hd hI => by
      obtain ⟨kvs, a2, a3, a4, a5, a6, a7, rfl, rfl, q⟩ := hI
      rw [Nat.zero_add] at q ⊢
      rw [List.getElem?_map] at hd
      cases hf : F[i]? with
      | none => rw [hf] at hd; cases hd
      | some f =>
        rw [hf] at hd
        cases hd
        have hm := List.mem_of_getElem? hf
        have hi := (List.getElem?_eq_some_iff.mp hf).1
        have ql := PF_len (F := F.take i) fun g hg => h.l3 g (List.mem_of_mem_take hg)
        rw [List.length_take] at ql
        obtain ⟨kvs', b3, b4, b5, b6, b7, e, q'⟩ := fbody_ok (h.gp f hm) (h.l3 f hm) q (by omega) (some (.val (.dct (toK F)))) a3 a4 a5 a6 a7 R
        have ht : PF (F.take (i + 1)) = PF (F.take i) ++ prs f.1 := by
          rw [List.take_add_one, hf]
          unfold PF
          rw [List.flatMap_append]
          simp
        exact ⟨[(2, .str (J f.1))], _, _, rfl, e, kvs', _, _, _, _, _, _, rfl, rfl, by rw [ht]; exact q'⟩) [some (.val (.dct (toK F))), some (.own (.dl [])), none, none, none, none, none, none] R ⟨[], none, none, none, none, none, none, rfl, rfl, Rp.nil⟩
  rw [Nat.zero_add, List.length_map, List.take_length] at q
  have kl := q.len
  let ks := kvs.map (·.1)
  have ksl : ks.length < 64 := by show (kvs.map (·.1)).length < 64; rw [List.length_map]; omega
  have kmem : ∀ s, s ∈ ks ↔ marksOf (PF F) s ≠ [] := fun s => by
    have e := q.look s
    have i1 : s ∈ ks ↔ lookL kvs s ≠ none := by
      unfold lookL
      rw [Ne, Option.map_eq_none_iff, List.find?_eq_none]
      show s ∈ kvs.map (·.1) ↔ _
      rw [List.mem_map]
      constructor
      · rintro ⟨kv, h1, h2⟩ h3
        exact h3 kv h1 (decide_eq_true h2)
      · intro h3
        apply Classical.byContradiction
        intro h4
        exact h3 fun kv hkv z => h4 ⟨kv, hkv, of_decide_eq_true z⟩
    rw [i1, e]
    by_cases z : marksOf (PF F) s = []
    · simp [z]
    · simp [z]
  refine ⟨srt ks, ?_, fun s => ?_⟩
  · refine defO_ro ?_
    show mb_folders_of [some (.val (.dct (toK F))), none, none, none, none, none, none, none] R = _
    rw [mb_folders_eq]
    refine (seq_nx (τ' := [some (.val (.dct (toK F))), some (.own (.dl [])), none, none, none, none, none, none]) (R' := R) rfl).trans ?_
    refine (seq_nx ((for_of (k1 ..)).trans e1)).trans ?_
    show mRetO (evP (mDcomp [6] lastMi (gN 6) tYesM (mV 6) lastMe)) [some (.val (.dct (toK F))), some (.val (.dct (dlD kvs))), a2, a3, a4, a5, a6, a7] R = _
    refine retO_of (mDcomp_ok (ss := srt ks) (val := FDv F) ?_ ?_ ?_ ?_)
    · show 6 < (viewA [some (.val (.dct (toK F))), some (.val (.dct (dlD kvs))), a2, a3, a4, a5, a6, a7]).length
      unfold viewA
      rw [List.length_map]
      show 6 < 8
      decide
    · have l1 : listO3 [.dct (dlD kvs)] = some (.lst (ks.map D.str)) := by
        show some (Own.lst (keysD (dlD kvs))) = some (Own.lst (ks.map D.str))
        congr 2
        unfold keysD dlD
        rw [List.map_map]
        show _ = (kvs.map (·.1)).map D.str
        rw [List.map_map]
        rfl
      exact (bind_ok (a := .lst ((srt ks).map D.str)) (s1 := R) (fz_ok (funO_okD (cons_ok (fz_ok (funO_okD (cons_ok rfl rfl) l1) rfl) rfl) (sort_lst ksl)) rfl)).trans rfl
    · rw [srt_len]; omega
    · intro s hs
      have hm := (kmem s).mp (srt_mem.mp hs)
      have lk : lookL kvs s = some ((marksOf (PF F) s).map D.str) := by rw [q.look s, if_neg hm]
      have ml := marks_len (PF F) s
      have dl := dedup_len (marksOf (PF F) s)
      refine fun_okD (cons_ok (fz_ok (funO_okD (cons_ok (op_ok (d := .lst ((marksOf (PF F) s).map D.str)) (x := .dct (dlD kvs)) (y := .str s) (R1 := R) (R2 := R) rfl rfl ?_) rfl) (ob := .lst ((srt (dedupS (marksOf (PF F) s))).map D.str)) ?_) rfl) rfl) rfl
      · show orF ixD dgetD (.dct (dlD kvs)) (.str s) = _
        show valD (dlD kvs) (.inr s) = _
        rw [val_dl, lk]
        rfl
      · show (strsD ((marksOf (PF F) s).map D.str)).bind _ = _
        rw [strsD_map, Option.bind_some, if_pos (by omega)]
  · rw [foldP_val]
    by_cases z : marksOf (PF F) s = []
    · rw [if_neg (fun hm => (kmem s).mp (srt_mem.mp hm) z), if_pos z]
      rfl
    · rw [if_pos (srt_mem.mpr ((kmem s).mpr z)), if_neg z]
/-! ### the tree -/
theorem keysS_toK (F : FF) : keysS (toK F) = some (F.map fun f => J f.1) := by
  induction F with
  | nil => rfl
  | cons f F ih =>
    show (keysS (toK F)).map (J f.1 :: ·) = _
    rw [ih]
    rfl
theorem sort_dct {F : FF} (h : F.length < 64) : sortO [.dct (toK F)] = some (.lst ((srt (F.map fun f => J f.1)).map D.str)) := by
  show (none : Option Own).or ((keysS (toK F)).bind fun xs => if xs.length < 64 then some (Own.lst ((srt xs).map D.str)) else none) = _
  rw [keysS_toK]
  show (none : Option Own).or (if (F.map fun f => J f.1).length < 64 then some (Own.lst ((srt (F.map fun f => J f.1)).map D.str)) else none) = _
  rw [if_pos (by rw [List.length_map]; exact h)]
  rfl
def valF (F : FF) (s : Str) : D := (valD (toK F) (.inr s)).getD .non
def initA : MS := mSet (gN 2) (evA (mCall 1 [] mf_checked_files (mCons (mV 1) (fun _ => pure []))))
def initB : MS := mSetF "Tree" ["_files", "_folders"] 0 "_files" (evA (mFz (mDcomp [3] (mSeqI (mFz (mFunO sortO (mCons (mV 2) (fun _ => pure []))))) (gN 3) tYesM (mV 3) (mOp subD (mV 2) (mV 3)))))
def initC : MS := mSetF "Tree" ["_files", "_folders"] 0 "_folders" (evA (mFz (mCallO 1 [] mf_folders_of (mCons (mV 2) (fun _ => pure [])))))
theorem mb_init_eq : mb_Tree_init = mSeq initA (mSeq initB initC) := rfl
theorem setF_of {c f : Str} {fl : List Str} {i : Nat} {ev : TauS → M D} {τ : TauS} {R R' : Sr} {d : D} {fs : List D} (h : ev τ R = some (d, R')) (h1 : τ[i]? = some (some (.own (.obj c fs)))) (h2 : fl[fs.length]? = some f) : mSetF c fl i f ev τ R = .nx (τ.set i (some (.own (.obj c (fs ++ [d]))))) R' := by
  unfold mSetF
  rw [h]
  dsimp only
  rw [h1]
  dsimp only
  rw [if_pos ⟨rfl, h2⟩]
theorem init_ok {F : FF} (h : GF F) (R : Sr) : ∃ ss, mf_Tree_init [.dct (toK F)] R = some ([.dct (foldP (valF F) (srt (F.map fun f => J f.1)) []), .dct (foldP (FDv F) ss [])], R) ∧ (∀ s, valD (foldP (valF F) (srt (F.map fun f => J f.1)) []) (.inr s) = valD (toK F) (.inr s)) ∧ ∀ s, valD (foldP (FDv F) ss []) (.inr s) = if marksOf (PF F) s = [] then none else some (FDv F s) := by
  obtain ⟨ss, eB, hB⟩ := folders_of_ok h R
  have h8 := h.few
  have kmem : ∀ s, s ∈ F.map (fun f => J f.1) ↔ valD (toK F) (.inr s) ≠ none := fun s => by
    rw [val_toK, Ne, Option.map_eq_none_iff, List.find?_eq_none, List.mem_map]
    constructor
    · rintro ⟨f, h1, h2⟩ h3
      exact h3 f h1 (decide_eq_true h2)
    · intro h3
      apply Classical.byContradiction
      intro h4
      exact h3 fun f hf z => h4 ⟨f, hf, of_decide_eq_true z⟩
  refine ⟨ss, ?_, fun s => ?_, hB⟩
  · have e1 : initA [some (.own (.obj "Tree" [])), some (.val (.dct (toK F))), none, none] R = .nx [some (.own (.obj "Tree" [])), some (.val (.dct (toK F))), some (.val (.dct (toK F))), none] R :=
      (set_of (us := [(2, .dct (toK F))]) (call_ok' (cons_ok rfl rfl) rfl (checked_ok h R)) rfl).trans rfl
    have e2 : initB [some (.own (.obj "Tree" [])), some (.val (.dct (toK F))), some (.val (.dct (toK F))), none] R = .nx [some (.own (.obj "Tree" [.dct (foldP (valF F) (srt (F.map fun f => J f.1)) [])])), some (.val (.dct (toK F))), some (.val (.dct (toK F))), none] R := by
      refine (setF_of (fs := []) (fz_ok (mDcomp_ok (ss := srt (F.map fun f => J f.1)) (val := valF F) ?_ ?_ ?_ ?_) rfl) rfl (by decide +kernel)).trans rfl
      · show 3 < 4
        decide
      · exact (bind_ok (a := .lst ((srt (F.map fun f => J f.1)).map D.str)) (s1 := R) (fz_ok (funO_okD (cons_ok rfl rfl) (sort_dct (by omega))) rfl)).trans rfl
      · rw [srt_len, List.length_map]; omega
      · intro s hs
        refine op_ok (x := .dct (toK F)) (y := .str s) (R1 := R) (R2 := R) rfl rfl ?_
        show orF ixD dgetD (.dct (toK F)) (.str s) = _
        show valD (toK F) (.inr s) = some (valF F s)
        have := (kmem s).mp (srt_mem.mp hs)
        unfold valF
        cases z : valD (toK F) (.inr s) with
        | none => exact absurd z this
        | some d => rfl
    have e3 : initC [some (.own (.obj "Tree" [.dct (foldP (valF F) (srt (F.map fun f => J f.1)) [])])), some (.val (.dct (toK F))), some (.val (.dct (toK F))), none] R = .nx [some (.own (.obj "Tree" [.dct (foldP (valF F) (srt (F.map fun f => J f.1)) []), .dct (foldP (FDv F) ss [])])), some (.val (.dct (toK F))), some (.val (.dct (toK F))), none] R :=
      (setF_of (fs := [.dct (foldP (valF F) (srt (F.map fun f => J f.1)) [])]) (fz_ok (callO_ok (cons_ok rfl rfl) rfl eB) rfl) rfl (by show (["_files", "_folders"] : List Str)[1]? = _; rfl)).trans rfl
    unfold mf_Tree_init mInit
    rw [mb_init_eq]
    show (match mSeq initA (mSeq initB initC) [some (.own (.obj "Tree" [])), some (.val (.dct (toK F))), none, none] R with
      | .nx τ' R' => match (τ'[0]? : Option (Option Sv)) with
        | some (some (.own (.obj c' fs))) => if c' = "Tree" ∧ fs.length = 2 then some (fs, R') else none
        | _ => none
      | _ => none) = _
    rw [(seq_nx e1).trans ((seq_nx e2).trans e3)]
    dsimp only [List.getElem?_cons_zero]
    rw [if_pos ⟨rfl, rfl⟩]
  · rw [foldP_val]
    by_cases z : valD (toK F) (.inr s) = none
    · rw [if_neg (fun hm => (kmem s).mp (srt_mem.mp hm) z), z]
      rfl
    · rw [if_pos (srt_mem.mpr ((kmem s).mpr z))]
      unfold valF
      cases y : valD (toK F) (.inr s) with
      | none => exact absurd y z
      | some d => rfl
end K2
set_option Elab.async false
set_option linter.all false
set_option maxRecDepth 100000
set_option maxHeartbeats 1000000
namespace K2
open PySem PySem.Spec PyProof.Rows L2 Nb RZ
/-! ### the files as they are drawn -/
def putF (F : FF) (l : List Str) (c : Str) : FF := if F.any (fun f => decide (f.1 = l)) then F.map (fun f => if f.1 = l then (f.1, c) else f) else F ++ [(l, c)]
theorem J_iff {a b : List Str} (ha : GP a) (hb : GP b) : J a = J b ↔ a = b := ⟨fun e => J_inj ha.ne hb.ne ha.fr hb.fr e, fun e => by rw [e]⟩
theorem put_toK {F : FF} (h : ∀ f ∈ F, GP f.1) {l : List Str} (hl : GP l) (c : Str) : putD (toK F) (.inr (J l)) (.str c) = toK (putF F l c) := by
  have ea : ((toK F).any fun kv => decide (kv.1 = Sum.inr (J l))) = F.any fun f => decide (f.1 = l) := by
    unfold toK
    rw [List.any_map]
    induction F with
    | nil => rfl
    | cons f F ih =>
      rw [List.any_cons, List.any_cons, ih fun g hg => h g (List.mem_cons_of_mem _ hg)]
      congr 1
      have := J_iff (h f List.mem_cons_self) hl
      show decide ((Sum.inr (J f.1) : Key) = Sum.inr (J l)) = _
      by_cases e : f.1 = l
      · rw [decide_eq_true e, decide_eq_true (by rw [e])]
      · rw [decide_eq_false e, decide_eq_false fun z => e (this.mp (Sum.inr.inj z))]
  unfold putD putF
  rw [ea]
  split
  · unfold toK
    rw [List.map_map, List.map_map]
    apply List.map_congr_left
    intro f hf
    have := J_iff (h f hf) hl
    show (if (Sum.inr (J f.1) : Key) = Sum.inr (J l) then ((Sum.inr (J f.1) : Key), D.str c) else (Sum.inr (J f.1), D.str f.2)) = ((Sum.inr (J (if f.1 = l then (f.1, c) else f).1) : Key), D.str (if f.1 = l then (f.1, c) else f).2)
    by_cases e : f.1 = l
    · rw [if_pos e, if_pos (by rw [e])]
    · rw [if_neg e, if_neg fun z => e (this.mp (Sum.inr.inj z))]
  · unfold toK
    rw [List.map_append]
    rfl
theorem putF_len (F : FF) (l : List Str) (c : Str) : (putF F l c).length ≤ F.length + 1 := by
  unfold putF
  split
  · rw [List.length_map]; omega
  · rw [List.length_append]; exact Nat.le_refl _
theorem putF_mem {F : FF} {l : List Str} {c : Str} {g : List Str × Str} (h : g ∈ putF F l c) : g.1 = l ∨ g ∈ F := by
  unfold putF at h
  split at h
  · obtain ⟨f, hf, rfl⟩ := List.mem_map.mp h
    by_cases e : f.1 = l
    · rw [if_pos e]; exact .inl e
    · rw [if_neg e]; exact .inr hf
  · rcases List.mem_append.mp h with h | h
    · exact .inr h
    · rw [List.mem_singleton.mp h]; exact .inl rfl
theorem GF.put {F : FF} (h : GF F) {l : List Str} (hl : GP l) (l3 : l.length ≤ 3) (c : Str) (few : F.length ≤ 11) (room : ∀ f ∈ F, pre f.1 l = false ∧ pre l f.1 = false) : GF (putF F l c) := by
  refine ⟨fun g hg => ?_, fun g hg => ?_, ?_, ?_⟩
  · rcases putF_mem hg with e | hg
    · rw [e]; exact hl
    · exact h.gp g hg
  · rcases putF_mem hg with e | hg
    · rw [e]; exact l3
    · exact h.l3 g hg
  · have := putF_len F l c; omega
  · unfold putF
    split
    · rw [List.pairwise_map]
      refine h.apart.imp fun {f g} hfg => ?_
      have e1 : (if f.1 = l then (f.1, c) else f).1 = f.1 := by split <;> rfl
      have e2 : (if g.1 = l then (g.1, c) else g).1 = g.1 := by split <;> rfl
      unfold Apart2 at hfg ⊢
      rw [e1, e2]
      exact hfg
    · rename_i hn
      rw [List.pairwise_append]
      refine ⟨h.apart, List.pairwise_singleton _ _, fun f hf g hg => ?_⟩
      rw [List.mem_singleton.mp hg]
      refine ⟨fun e => hn (List.any_eq_true.mpr ⟨f, hf, decide_eq_true e⟩), room f hf⟩
theorem put_ok2 {i : Nat} {ek ev : TauS → M D} {τ : TauS} {R R1 R2 : Sr} {d kd : D} {k : Key} {kvs : List (Key × D)} (h1 : ev τ R = some (d, R1)) (h2 : ek τ R1 = some (kd, R2)) (h3 : keyD kd = some k) (h4 : τ[i]? = some (some (.own (.dct kvs)))) (h5 : kvs.length ≤ 16000000) : mPut i ek ev τ R = .nx (τ.set i (some (.own (.dct (putD kvs k d))))) R2 := by
  unfold mPut
  rw [h1]
  dsimp only
  rw [h2]
  dsimp only
  rw [h3, h4]
  dsimp only
  rw [if_pos h5]
def fbA : MS := mSet (gN 4) (evA (mCall 2 [] mf_law_some_path (mCons (mV 0) (mCons (mC (.int 3)) (fun _ => pure [])))))
def fbB : MS := mIfS (evT (mTru (mCall 2 [] mf_law_has_room (mCons (mV 2) (mCons (mV 4) (fun _ => pure [])))))) (mPut 2 (evA (mV 4)) (evA (mCall 2 [] mf_law_pick (mCons (mV 0) (mCons (mLst (mCons (mC (.str "")) (mCons (mC (.str "x")) (mCons (mC (.str "x y\n")) (fun _ => pure []))))) (fun _ => pure [])))))) mNil
theorem mb_some_files_eq : mb_law_some_files = mSeq (mNew 2 (evP (fun _ => pure (.dct [])))) (mSeq (mFor (mFunI rngF1 (mCons (mV 1) (fun _ => pure []))) (gN 3) (mSeq fbA fbB)) (mRetL 2)) := rfl
theorem ben_J {a b : List Str} (ha : GP a) (hb : GP b) : ben (J a) (J b) = pre b a := cut_ben ha.ne hb.ne ha.fr hb.fr
theorem small_J {l : List Str} (h : GP l) : Small (J l) := by have := h.len; unfold Small; omega
def Zf (F : FF) : Prop := ∀ f ∈ F, (∀ x ∈ f.1, x ≠ ("zz" : Str)) ∧ f.2 ≠ ("bent" : Str)
theorem putF_mem2 {F : FF} {l : List Str} {c : Str} {g : List Str × Str} (h : g ∈ putF F l c) : (g.1 = l ∧ g.2 = c) ∨ g ∈ F := by
  unfold putF at h
  split at h
  · obtain ⟨f, hf, e⟩ := List.mem_map.mp h
    split at e
    · rename_i q; subst e; exact .inl ⟨q, rfl⟩
    · subst e; exact .inr hf
  · rcases List.mem_append.mp h with h | h
    · exact .inr h
    · rw [List.mem_singleton.mp h]; exact .inl ⟨rfl, rfl⟩
theorem some_file {F : FF} (h : GF F) (hz : Zf F) (few : F.length ≤ 11) (ns : List Int) (hd : DrawsOk ns) (a3 a4 : Option Sv) : ∃ F' ns' a4', mSeq fbA fbB [some (.val .src), some (.val (.int 7)), some (.own (.dct (toK F))), a3, a4] (some ns) = .nx [some (.val .src), some (.val (.int 7)), some (.own (.dct (toK F'))), a3, a4'] (some ns') ∧ GF F' ∧ Zf F' ∧ F'.length ≤ F.length + 1 ∧ DrawsOk ns' := by
  obtain ⟨p, l, n1, e1, pk, lz, lm, d1⟩ := some_path ns hd 3 (by decide) (by decide)
  have gl : GP l := ⟨pk.2.1, pk.2.2.1, pk.2.2.2⟩
  have l3 : l.length ≤ 3 := by omega
  have ep : p = J l := pk.1
  subst ep
  have s1 : fbA [some (.val .src), some (.val (.int 7)), some (.own (.dct (toK F))), a3, a4] (some ns) = .nx [some (.val .src), some (.val (.int 7)), some (.own (.dct (toK F))), a3, some (.val (.str (J l)))] (some n1) :=
    (set_of (us := [(4, .str (J l))]) (call_ok' (cons_ok rfl (cons_ok rfl rfl)) rfl e1) rfl).trans rfl
  have fl : (toK F).length ≤ 1000 := by unfold toK; rw [List.length_map]; omega
  have rm := room_ok (J l) (small_J gl) (toK F) (F.map fun f => J f.1) (some n1) (keysS_toK F) fl fun k hk => by
    obtain ⟨f, hf, rfl⟩ := List.mem_map.mp hk
    exact small_J (h.gp f hf)
  have t1 : evT (mTru (mCall 2 [] mf_law_has_room (mCons (mV 2) (mCons (mV 4) (fun _ => pure []))))) [some (.val .src), some (.val (.int 7)), some (.own (.dct (toK F))), a3, some (.val (.str (J l)))] (some n1) = some (room (F.map fun f => J f.1) (J l), some n1) :=
    tru_ok' (call_ok' (cons_ok rfl (cons_ok rfl rfl)) rfl rm) rfl
  cases hr : room (F.map fun f => J f.1) (J l) with
  | false =>
    rw [hr] at t1
    exact ⟨F, n1, _, (seq_nx s1).trans ((if_ff t1).trans rfl), h, hz, by omega, d1⟩
  | true =>
    rw [hr] at t1
    obtain ⟨d, n2, e2, hm, d2⟩ := pick n1 d1 [.str "", .str "x", .str "x y\n"] (by simp) (by simp)
    obtain ⟨c, rfl, cb⟩ : ∃ c, d = .str c ∧ c ≠ ("bent" : Str) := by
      simp only [List.mem_cons, List.not_mem_nil, or_false] at hm
      rcases hm with rfl | rfl | rfl
      · exact ⟨_, rfl, by decide +kernel⟩
      · exact ⟨_, rfl, by decide +kernel⟩
      · exact ⟨_, rfl, by decide +kernel⟩
    have rm2 : ∀ f ∈ F, pre f.1 l = false ∧ pre l f.1 = false := fun f hf => by
      unfold room at hr
      simp only [Bool.not_eq_true', List.any_eq_false, List.mem_map, forall_exists_index, and_imp, forall_apply_eq_imp_iff₂, Bool.or_eq_true, not_or, Bool.not_eq_true] at hr
      obtain ⟨h1, h2⟩ := hr f hf
      rw [ben_J gl (h.gp f hf)] at h1
      rw [ben_J (h.gp f hf) gl] at h2
      exact ⟨h1, h2⟩
    refine ⟨putF F l c, n2, some (.val (.str (J l))), (seq_nx s1).trans ((if_tt t1).trans ((put_ok2 (d := .str c) (k := .inr (J l)) (kd := .str (J l)) (R1 := some n2) (R2 := some n2) (kvs := toK F) (call_ok' (cons_ok rfl (cons_ok rfl rfl)) rfl e2) rfl rfl rfl (by omega)).trans ?_)), h.put gl l3 c few rm2, (fun g hg => (putF_mem2 hg).elim (fun q => ⟨by rw [q.1]; exact lz, by rw [q.2]; exact cb⟩) (hz g)), putF_len F l c, d2⟩
    rw [put_toK h.gp gl c]
    rfl
theorem some_files_ok (ns : List Int) (hd : DrawsOk ns) : ∃ F ns', mf_law_some_files [.src, .int 7] (some ns) = some (.dct (toK F), some ns') ∧ GF F ∧ Zf F ∧ F.length ≤ 7 ∧ DrawsOk ns' := by
  obtain ⟨τ, R, e, F, n1, a3, a4, rfl, rfl, g, z, gl, d⟩ := loop_inv (g := gN 3) (mb := mSeq fbA fbB) (fun i τ R => ∃ F n1 a3 a4, τ = [some (.val .src), some (.val (.int 7)), some (.own (.dct (toK F))), a3, a4] ∧ R = some n1 ∧ GF F ∧ Zf F ∧ F.length ≤ i ∧ DrawsOk n1) (rngD 0 7) 0 (fun i d τ R hi hI => by
    obtain ⟨F, n1, a3, a4, rfl, rfl, g, z, fl, dd⟩ := hI
    have i8 : i < 7 := by
      have := (List.getElem?_eq_some_iff.mp hi).1
      rw [rng_len] at this
      exact this
    obtain ⟨F', n2, a4', e, g', z', fl', d'⟩ := some_file g z (by omega) n1 dd (some (.val d)) a4
    exact ⟨[(3, d)], _, _, rfl, e, F', n2, _, a4', rfl, rfl, g', z', by omega, d'⟩) [some (.val .src), some (.val (.int 7)), some (.own (.dct (toK []))), none, none] (some ns)
    ⟨[], ns, none, none, rfl, rfl, ⟨(fun _ h => nomatch h), (fun _ h => nomatch h), Nat.zero_le _, .nil⟩, (fun _ h => nomatch h), Nat.le_refl _, hd⟩
  refine ⟨F, n1, ?_, g, z, by rw [rng_len] at gl; omega, d⟩
  have e2 : mb_law_some_files (startD 5 [.src, .int 7]) (some ns) = .ro (.dct (toK F)) (some n1) := by
    rw [mb_some_files_eq]
    refine (seq_nx (τ' := [some (.val .src), some (.val (.int 7)), some (.own (.dct (toK []))), none, none]) (R' := some ns) rfl).trans ?_
    refine (seq_nx ((for_of (ds := rngD 0 7) (R' := some ns) rfl).trans e)).trans rfl
  unfold mf_law_some_files mDefO
  rw [e2]
/-! ### sorted names, strokes after them -/
theorem lt_app : ∀ (la lb : List Nat), (∀ c ∈ lb, 47 < c) → la < lb → ∀ s t : List Nat, (s = [] ∨ s = [47]) → la ++ s < lb ++ t
  | [], [], _, h, _, _, _ => absurd h (List.lt_irrefl _)
  | [], c :: r, hc, _, s, t, hs => by
    rcases hs with rfl | rfl
    · exact List.nil_lt_cons _ _
    · exact List.cons_lt_cons_iff.mpr (.inl (hc c List.mem_cons_self))
  | _ :: _, [], _, h, _, _, _ => absurd h (by simp)
  | x :: u, y :: v, hc, h, s, t, hs => by
    rcases List.cons_lt_cons_iff.mp h with h | ⟨h1, h2⟩
    · exact List.cons_lt_cons_iff.mpr (.inl h)
    · exact List.cons_lt_cons_iff.mpr (.inr ⟨h1, lt_app u v (fun c z => hc c (List.mem_cons_of_mem _ z)) h2 s t hs⟩)
theorem okc_gt {c : Nat} (h : okc c = true) : 47 < c := by
  unfold okc at h
  simp at h
  omega
def Stk (s : Str) : Prop := s = "" ∨ s = "/"
theorem Stk.cl {s : Str} (h : Stk s) : K2.cl s = [] ∨ K2.cl s = [47] := by
  rcases h with rfl | rfl
  · exact .inl (by decide +kernel)
  · exact .inr cl_sl
theorem le_app {a b s t : Str} (hb : NameOk b = true) (h : leS a b = true) (ne : a ≠ b) (hs : Stk s) : leS (a ++ s) (b ++ t) = true := by
  rw [leS_iff] at h ⊢
  have h : cl a ≤ cl b := h
  show cl (a ++ s) ≤ cl (b ++ t)
  rw [cl_app, cl_app]
  refine List.le_of_lt (lt_app _ _ (fun c hc => okc_gt ((nm_cl hb).2.2 c hc)) ?_ _ _ hs.cl)
  apply Classical.byContradiction
  intro z
  exact ne (cl_inj (List.le_antisymm h (List.not_lt.mp z)))
theorem app_inj {a b s t : Str} (ha : NameOk a = true) (hb : NameOk b = true) (hs : Stk s) (ht : Stk t) (e : a ++ s = b ++ t) : a = b := by
  have e := congrArg cl e
  rw [cl_app, cl_app] at e
  have na : 47 ∉ cl a := fun z => by have := okc_gt ((nm_cl ha).2.2 _ z); omega
  have nb : 47 ∉ cl b := fun z => by have := okc_gt ((nm_cl hb).2.2 _ z); omega
  apply cl_inj
  rcases hs.cl with h1 | h1 <;> rcases ht.cl with h2 | h2 <;> rw [h1, h2] at e
  · simpa using e
  · rw [List.append_nil] at e
    exact absurd (by rw [e]; simp) na
  · rw [List.append_nil] at e
    exact absurd (by rw [← e]; simp) nb
  · exact List.append_cancel_right e
end K2
set_option Elab.async false
set_option linter.all false
set_option maxRecDepth 100000
set_option maxHeartbeats 1000000
namespace K2
open PySem PySem.Spec PyProof.Rows L2 Nb RZ
theorem some_file4 {F : FF} (h : GF F) (hz : Zf F) (few : F.length ≤ 11) (ns : List Int) (hd : DrawsOk ns) (a3 a4 : Option Sv) : ∃ F' ns' a4', mSeq fbA fbB [some (.val .src), some (.val (.int 4)), some (.own (.dct (toK F))), a3, a4] (some ns) = .nx [some (.val .src), some (.val (.int 4)), some (.own (.dct (toK F'))), a3, a4'] (some ns') ∧ GF F' ∧ Zf F' ∧ F'.length ≤ F.length + 1 ∧ DrawsOk ns' := by
  obtain ⟨p, l, n1, e1, pk, lz, lm, d1⟩ := some_path ns hd 3 (by decide) (by decide)
  have gl : GP l := ⟨pk.2.1, pk.2.2.1, pk.2.2.2⟩
  have l3 : l.length ≤ 3 := by omega
  have ep : p = J l := pk.1
  subst ep
  have s1 : fbA [some (.val .src), some (.val (.int 4)), some (.own (.dct (toK F))), a3, a4] (some ns) = .nx [some (.val .src), some (.val (.int 4)), some (.own (.dct (toK F))), a3, some (.val (.str (J l)))] (some n1) :=
    (set_of (us := [(4, .str (J l))]) (call_ok' (cons_ok rfl (cons_ok rfl rfl)) rfl e1) rfl).trans rfl
  have fl : (toK F).length ≤ 1000 := by unfold toK; rw [List.length_map]; omega
  have rm := room_ok (J l) (small_J gl) (toK F) (F.map fun f => J f.1) (some n1) (keysS_toK F) fl fun k hk => by
    obtain ⟨f, hf, rfl⟩ := List.mem_map.mp hk
    exact small_J (h.gp f hf)
  have t1 : evT (mTru (mCall 2 [] mf_law_has_room (mCons (mV 2) (mCons (mV 4) (fun _ => pure []))))) [some (.val .src), some (.val (.int 4)), some (.own (.dct (toK F))), a3, some (.val (.str (J l)))] (some n1) = some (room (F.map fun f => J f.1) (J l), some n1) :=
    tru_ok' (call_ok' (cons_ok rfl (cons_ok rfl rfl)) rfl rm) rfl
  cases hr : room (F.map fun f => J f.1) (J l) with
  | false =>
    rw [hr] at t1
    exact ⟨F, n1, _, (seq_nx s1).trans ((if_ff t1).trans rfl), h, hz, by omega, d1⟩
  | true =>
    rw [hr] at t1
    obtain ⟨d, n2, e2, hm, d2⟩ := pick n1 d1 [.str "", .str "x", .str "x y\n"] (by simp) (by simp)
    obtain ⟨c, rfl, cb⟩ : ∃ c, d = .str c ∧ c ≠ ("bent" : Str) := by
      simp only [List.mem_cons, List.not_mem_nil, or_false] at hm
      rcases hm with rfl | rfl | rfl
      · exact ⟨_, rfl, by decide +kernel⟩
      · exact ⟨_, rfl, by decide +kernel⟩
      · exact ⟨_, rfl, by decide +kernel⟩
    have rm2 : ∀ f ∈ F, pre f.1 l = false ∧ pre l f.1 = false := fun f hf => by
      unfold room at hr
      simp only [Bool.not_eq_true', List.any_eq_false, List.mem_map, forall_exists_index, and_imp, forall_apply_eq_imp_iff₂, Bool.or_eq_true, not_or, Bool.not_eq_true] at hr
      obtain ⟨h1, h2⟩ := hr f hf
      rw [ben_J gl (h.gp f hf)] at h1
      rw [ben_J (h.gp f hf) gl] at h2
      exact ⟨h1, h2⟩
    refine ⟨putF F l c, n2, some (.val (.str (J l))), (seq_nx s1).trans ((if_tt t1).trans ((put_ok2 (d := .str c) (k := .inr (J l)) (kd := .str (J l)) (R1 := some n2) (R2 := some n2) (kvs := toK F) (call_ok' (cons_ok rfl (cons_ok rfl rfl)) rfl e2) rfl rfl rfl (by omega)).trans ?_)), h.put gl l3 c few rm2, (fun g hg => (putF_mem2 hg).elim (fun q => ⟨by rw [q.1]; exact lz, by rw [q.2]; exact cb⟩) (hz g)), putF_len F l c, d2⟩
    rw [put_toK h.gp gl c]
    rfl
theorem some_files_ok4 (ns : List Int) (hd : DrawsOk ns) : ∃ F ns', mf_law_some_files [.src, .int 4] (some ns) = some (.dct (toK F), some ns') ∧ GF F ∧ Zf F ∧ F.length ≤ 4 ∧ DrawsOk ns' := by
  obtain ⟨τ, R, e, F, n1, a3, a4, rfl, rfl, g, z, gl, d⟩ := loop_inv (g := gN 3) (mb := mSeq fbA fbB) (fun i τ R => ∃ F n1 a3 a4, τ = [some (.val .src), some (.val (.int 4)), some (.own (.dct (toK F))), a3, a4] ∧ R = some n1 ∧ GF F ∧ Zf F ∧ F.length ≤ i ∧ DrawsOk n1) (rngD 0 4) 0 (fun i d τ R hi hI => by
    obtain ⟨F, n1, a3, a4, rfl, rfl, g, z, fl, dd⟩ := hI
    have i8 : i < 4 := by
      have := (List.getElem?_eq_some_iff.mp hi).1
      rw [rng_len] at this
      exact this
    obtain ⟨F', n2, a4', e, g', z', fl', d'⟩ := some_file4 g z (by omega) n1 dd (some (.val d)) a4
    exact ⟨[(3, d)], _, _, rfl, e, F', n2, _, a4', rfl, rfl, g', z', by omega, d'⟩) [some (.val .src), some (.val (.int 4)), some (.own (.dct (toK []))), none, none] (some ns)
    ⟨[], ns, none, none, rfl, rfl, ⟨(fun _ h => nomatch h), (fun _ h => nomatch h), Nat.zero_le _, .nil⟩, (fun _ h => nomatch h), Nat.le_refl _, hd⟩
  refine ⟨F, n1, ?_, g, z, by rw [rng_len] at gl; omega, d⟩
  have e2 : mb_law_some_files (startD 5 [.src, .int 4]) (some ns) = .ro (.dct (toK F)) (some n1) := by
    rw [mb_some_files_eq]
    refine (seq_nx (τ' := [some (.val .src), some (.val (.int 4)), some (.own (.dct (toK []))), none, none]) (R' := some ns) rfl).trans ?_
    refine (seq_nx ((for_of (ds := rngD 0 4) (R' := some ns) rfl).trans e)).trans rfl
  unfold mf_law_some_files mDefO
  rw [e2]
end K2
set_option Elab.async false
set_option linter.all false
set_option maxRecDepth 100000
set_option maxHeartbeats 1000000
namespace K2
open PySem PySem.Spec PyProof.Rows L2 Nb RZ
/-! ### dicts by their keys -/
theorem keysS_append : ∀ {a b : List (Key × D)} {ka kb : List Str}, keysS a = some ka → keysS b = some kb → keysS (a ++ b) = some (ka ++ kb)
  | [], b, ka, kb, h, k => by cases h; exact k
  | (.inl _, _) :: r, b, ka, kb, h, k => by cases h
  | (.inr s, d) :: r, b, ka, kb, h, k => by
    unfold keysS at h
    cases z : keysS r with
    | none => rw [z] at h; cases h
    | some l =>
      rw [z] at h; cases h
      show (keysS (r ++ b)).map (s :: ·) = _
      rw [keysS_append z k]
      rfl
theorem keysS_val : ∀ {kvs : List (Key × D)} {ks : List Str}, keysS kvs = some ks → ∀ s, s ∈ ks ↔ (valD kvs (.inr s)).isSome = true
  | [], ks, h, s => by cases h; simp [valD]
  | (.inl _, _) :: r, ks, h, s => by cases h
  | (.inr t, d) :: r, ks, h, s => by
    unfold keysS at h
    cases z : keysS r with
    | none => rw [z] at h; cases h
    | some l =>
      rw [z] at h; cases h
      have ih := keysS_val z s
      by_cases e : t = s
      · subst e; simp [valD]
      · have e2 : ¬ (Sum.inr t : Key) = Sum.inr s := fun q => e (Sum.inr.inj q)
        have : valD ((Sum.inr t, d) :: r) (.inr s) = valD r (.inr s) := by simp [valD, e]
        rw [this, List.mem_cons, ih]
        constructor
        · rintro (q | q)
          · exact absurd q.symm e
          · exact q
        · exact .inr
theorem keysS_len {kvs : List (Key × D)} {ks : List Str} (h : keysS kvs = some ks) : ks.length = kvs.length := by
  have := congrArg List.length (keysS_eq h)
  simpa using this.symm
theorem keysS_map (f : Key × D → D) : ∀ {kvs : List (Key × D)} {ks : List Str}, keysS kvs = some ks → keysS (kvs.map fun kv => (kv.1, f kv)) = some ks
  | [], ks, h => h
  | (.inl _, _) :: r, ks, h => by cases h
  | (.inr t, d) :: r, ks, h => by
    unfold keysS at h
    cases z : keysS r with
    | none => rw [z] at h; cases h
    | some l =>
      rw [z] at h; cases h
      show (keysS (r.map fun kv => (kv.1, f kv))).map (t :: ·) = _
      rw [keysS_map f z]
      rfl
theorem put_dn {kvs : List (Key × D)} {ks : List Str} (h : keysS kvs = some ks) (nd : ks.Nodup) (s : Str) (d : D) : ∃ ks', keysS (putD kvs (.inr s) d) = some ks' ∧ ks'.Nodup ∧ ∀ x, x ∈ ks' ↔ x = s ∨ x ∈ ks := by
  unfold putD
  split
  · rename_i q
    have hs : s ∈ ks := by
      obtain ⟨p, hp, e⟩ := List.any_eq_true.mp q
      have e : p.1 = Sum.inr s := of_decide_eq_true e
      have := keysS_eq h
      have m : p.1 ∈ kvs.map (·.1) := List.mem_map_of_mem hp
      rw [this, e] at m
      obtain ⟨t, ht, e2⟩ := List.mem_map.mp m
      cases e2
      exact ht
    refine ⟨ks, ?_, nd, fun x => ⟨.inr, fun z => z.elim (fun e => e ▸ hs) id⟩⟩
    have := keysS_map (fun kv => if kv.1 = .inr s then d else kv.2) h
    rw [← this]
    congr 1
    apply List.map_congr_left
    intro kv _
    by_cases e : kv.1 = .inr s
    · simp [e]
    · simp [e]
  · rename_i q
    have hs : s ∉ ks := fun hs => q (by
      have m : (Sum.inr s : Key) ∈ kvs.map (·.1) := by rw [keysS_eq h]; exact List.mem_map_of_mem hs
      obtain ⟨p, hp, e⟩ := List.mem_map.mp m
      exact List.any_eq_true.mpr ⟨p, hp, decide_eq_true e⟩)
    refine ⟨ks ++ [s], keysS_append h rfl, List.nodup_append.mpr ⟨nd, by simp, fun x hx y hy => ?_⟩, fun x => ?_⟩
    · rw [List.mem_singleton.mp hy]
      exact fun e => hs (e ▸ hx)
    · rw [List.mem_append, List.mem_singleton]
      exact Or.comm
theorem foldP_dn (val : Str → D) : ∀ (ss : List Str) (acc : List (Key × D)) (ks : List Str), keysS acc = some ks → ks.Nodup → ∃ ks', keysS (foldP val ss acc) = some ks' ∧ ks'.Nodup ∧ ∀ x, x ∈ ks' ↔ x ∈ ss ∨ x ∈ ks
  | [], acc, ks, h, nd => ⟨ks, h, nd, fun x => by simp⟩
  | s :: ss, acc, ks, h, nd => by
    obtain ⟨k1, h1, n1, m1⟩ := put_dn h nd s (val s)
    obtain ⟨k2, h2, n2, m2⟩ := foldP_dn val ss _ k1 h1 n1
    refine ⟨k2, h2, n2, fun x => ?_⟩
    rw [m2, m1, List.mem_cons]
    constructor
    · rintro (q | q | q)
      · exact .inl (.inr q)
      · exact .inl (.inl q)
      · exact .inr q
    · rintro ((q | q) | q)
      · exact .inr (.inl q)
      · exact .inl q
      · exact .inr (.inr q)
/-! ### files with the same members -/
def SameM (F G : FF) : Prop := ∀ f, f ∈ F ↔ f ∈ G
theorem as_toK : ∀ {kvs : List (Key × D)} {ks : List Str}, keysS kvs = some ks → ks.Nodup → (∀ s ∈ ks, ∃ l c, GP l ∧ s = J l ∧ valD kvs (.inr s) = some (.str c)) → ∃ F : FF, kvs = toK F ∧ F.map (fun f => J f.1) = ks ∧ ∀ f ∈ F, GP f.1 ∧ valD kvs (.inr (J f.1)) = some (.str f.2)
  | [], ks, h, _, _ => by cases h; exact ⟨[], rfl, rfl, fun _ z => nomatch z⟩
  | (.inl _, _) :: r, ks, h, _, _ => by cases h
  | (.inr t, d) :: r, ks, h, nd, hv => by
    unfold keysS at h
    cases z : keysS r with
    | none => rw [z] at h; cases h
    | some l =>
      rw [z] at h; cases h
      obtain ⟨n1, n2⟩ := List.nodup_cons.mp nd
      have off : ∀ s, s ∈ l → valD ((Sum.inr t, d) :: r) (.inr s) = valD r (.inr s) := fun s hs => by
        have : ¬ t = s := fun e => n1 (e ▸ hs)
        simp [valD, this]
      obtain ⟨F, e, ek, hF⟩ := as_toK z n2 fun s hs => by
        obtain ⟨p, c, h1, h2, h3⟩ := hv s (List.mem_cons_of_mem _ hs)
        exact ⟨p, c, h1, h2, by rw [← off s hs]; exact h3⟩
      obtain ⟨p, c, h1, h2, h3⟩ := hv t List.mem_cons_self
      have hd : d = .str c := by simpa [valD] using h3
      refine ⟨(p, c) :: F, ?_, ?_, fun f hf => ?_⟩
      · rw [hd, h2, e]; rfl
      · rw [List.map_cons, ek, ← h2]
      · rcases List.mem_cons.mp hf with rfl | hf
        · refine ⟨h1, ?_⟩
          rw [← h2]
          exact h3
        · have := hF f hf
          refine ⟨this.1, ?_⟩
          rw [off _ (by rw [← ek]; exact List.mem_map_of_mem (f := fun f : List Str × Str => J f.1) hf)]
          exact this.2
theorem foldP_nd (val : Str → D) : ∀ (ss : List Str) (acc : List (Key × D)) (ks : List Str), keysS acc = some ks → ss.Nodup → (∀ s ∈ ss, s ∉ ks) → foldP val ss acc = acc ++ ss.map fun s => (Sum.inr s, val s)
  | [], acc, ks, _, _, _ => by simp [foldP]
  | s :: ss, acc, ks, h, nd, off => by
    obtain ⟨n1, n2⟩ := List.nodup_cons.mp nd
    have hs := off s List.mem_cons_self
    have e : putD acc (.inr s) (val s) = acc ++ [(Sum.inr s, val s)] := by
      unfold putD
      rw [if_neg]
      intro q
      obtain ⟨p, hp, e⟩ := List.any_eq_true.mp q
      have e : p.1 = Sum.inr s := of_decide_eq_true e
      have m : p.1 ∈ acc.map (·.1) := List.mem_map_of_mem hp
      rw [keysS_eq h, e] at m
      obtain ⟨t, ht, e2⟩ := List.mem_map.mp m
      cases e2
      exact hs ht
    show foldP val ss (putD acc (.inr s) (val s)) = _
    rw [e, foldP_nd val ss _ (ks ++ [s]) (keysS_append h rfl) n2 fun x hx => ?_]
    · rw [List.append_assoc]
      rfl
    · rw [List.mem_append, List.mem_singleton]
      rintro (q | q)
      · exact off x (List.mem_cons_of_mem _ hx) q
      · exact n1 (q ▸ hx)
theorem keysS_mk (val : Str → D) : ∀ ss : List Str, keysS (ss.map fun s => ((Sum.inr s : Key), val s)) = some ss
  | [] => rfl
  | s :: ss => by
    show (keysS (ss.map fun s => ((Sum.inr s : Key), val s))).map (s :: ·) = _
    rw [keysS_mk val ss]
    rfl
theorem GF.nd {F : FF} (h : GF F) : (F.map fun f => J f.1).Nodup := by
  refine List.pairwise_map.mpr ?_
  refine (List.Pairwise.and_mem.mp h.apart).imp fun {a b} hab e => ?_
  obtain ⟨ha, hb, ap⟩ := hab
  exact ap.1 (J_inj (h.gp a ha).ne (h.gp b hb).ne (h.gp a ha).fr (h.gp b hb).fr e)
theorem GF.mem {F : FF} (h : GF F) {l : List Str} (hl : GP l) {c : Str} : (l, c) ∈ F ↔ valD (toK F) (.inr (J l)) = some (.str c) := by
  constructor
  · intro m
    exact h.val m
  · intro e
    rw [val_toK] at e
    cases z : F.find? fun f => decide (J f.1 = J l) with
    | none => rw [z] at e; cases e
    | some f =>
      rw [z] at e
      have e : some (D.str f.2) = some (.str c) := e
      cases e
      have m := List.mem_of_find?_eq_some z
      have j := (J_iff (h.gp f m) hl).mp (of_decide_eq_true (p := J f.1 = J l) (List.find?_some (p := fun f : List Str × Str => decide (J f.1 = J l)) z))
      subst j
      exact m
/-- another list with the same members and keys of its own -/
theorem GF.of_same {F G : FF} (h : GF F) (s : SameM G F) (nd : (G.map fun f => J f.1).Nodup) : GF G ∧ G.length = F.length := by
  have len : G.length = F.length := by
    have p : (G.map fun f => J f.1).Perm (F.map fun f => J f.1) := (List.perm_ext_iff_of_nodup nd h.nd).mpr fun x => by
      rw [List.mem_map, List.mem_map]
      constructor
      · rintro ⟨f, hf, e⟩; exact ⟨f, (s f).mp hf, e⟩
      · rintro ⟨f, hf, e⟩; exact ⟨f, (s f).mpr hf, e⟩
    simpa using p.length_eq
  refine ⟨⟨fun f hf => h.gp f ((s f).mp hf), fun f hf => h.l3 f ((s f).mp hf), by rw [len]; exact h.few, ?_⟩, len⟩
  have nd := List.pairwise_map.mp nd
  refine (List.Pairwise.and_mem.mp nd).imp fun {a b} hab => ?_
  obtain ⟨ha, hb, ne⟩ := hab
  exact ⟨fun e => ne (by rw [e]), h.apart2 ((s a).mp ha) ((s b).mp hb), h.apart2 ((s b).mp hb) ((s a).mp ha)⟩
/-- a tree of files -/
theorem tree_ok {F : FF} (h : GF F) (R : Sr) : ∃ (FA : FF) (B : List (Key × D)) (kb : List Str), mf_Tree_init [.dct (toK F)] R = some ([.dct (toK FA), .dct B], R) ∧ SameM FA F ∧ GF FA ∧ FA.map (fun f => J f.1) = srt (F.map fun f => J f.1) ∧ keysS B = some kb ∧ kb.Nodup ∧ ∀ s, valD B (.inr s) = if marksOf (PF F) s = [] then none else some (FDv F s) := by
  obtain ⟨ss, e, hA, hB⟩ := init_ok h R
  obtain ⟨ka, k1, k2, k3⟩ := foldP_dn (valF F) (srt (F.map fun f => J f.1)) [] [] rfl List.nodup_nil
  obtain ⟨kb, b1, b2, _⟩ := foldP_dn (FDv F) ss [] [] rfl List.nodup_nil
  have km : ∀ s, s ∈ ka ↔ ∃ f ∈ F, J f.1 = s := fun s => by
    rw [k3, srt_mem, List.mem_map]
    simp
  obtain ⟨FA, f1, f2, f3⟩ := as_toK k1 k2 fun s hs => by
    obtain ⟨f, hf, e⟩ := (km s).mp hs
    exact ⟨f.1, f.2, h.gp f hf, e.symm, by rw [hA, ← e]; exact h.val hf⟩
  have sm : SameM FA F := fun f => by
    constructor
    · intro hf
      obtain ⟨g1, g2⟩ := f3 f hf
      rw [hA] at g2
      exact (h.mem g1).mpr g2
    · intro hf
      have hk : J f.1 ∈ FA.map fun f => J f.1 := by rw [f2]; exact (km _).mpr ⟨f, hf, rfl⟩
      obtain ⟨g, hg, e⟩ := List.mem_map.mp hk
      obtain ⟨g1, g2⟩ := f3 g hg
      have e1 := (J_iff g1 (h.gp f hf)).mp e
      rw [hA, e, h.val hf] at g2
      have e2 : f.2 = g.2 := D.str.inj (Option.some.inj g2)
      have : g = f := Prod.ext e1 e2.symm
      rw [← this]
      exact hg
  rw [f1] at e
  refine ⟨FA, _, kb, e, sm, (h.of_same sm (by rw [f2]; exact k2)).1, ?_, b1, b2, hB⟩
  have z := foldP_nd (valF F) (srt (F.map fun f => J f.1)) [] [] rfl ((srt_perm _).nodup_iff.mpr h.nd) (fun _ _ q => nomatch q)
  rw [f2]
  rw [z, List.nil_append, keysS_mk] at k1
  exact (Option.some.inj k1).symm
end K2
set_option Elab.async false
set_option linter.all false
set_option maxRecDepth 100000
set_option maxHeartbeats 1000000
namespace K2
open PySem PySem.Spec PyProof.Rows L2 Nb RZ
/-! ### dicts of files compared -/
def flatF (F : FF) : List (Key × V) := F.map fun f => (Sum.inr (J f.1), V.str f.2)
theorem flatK_toK (F : FF) : flatK (toK F) = some (flatF F) := by
  induction F with
  | nil => rfl
  | cons f F ih =>
    show (some (V.str f.2)).bind (fun v => (flatK (toK F)).map fun l => ((Sum.inr (J f.1) : Key), v) :: l) = _
    rw [ih]
    rfl
theorem val_flatF (F : FF) (s : Str) : valV (flatF F) (.inr s) = (F.find? fun f => decide (J f.1 = s)).map fun f => .str f.2 := by
  unfold valV flatF
  rw [List.find?_map, Option.map_map]
  have e : ((fun kv : Key × V => decide (kv.1 = Sum.inr s)) ∘ fun f : List Str × Str => ((Sum.inr (J f.1) : Key), V.str f.2)) = fun f => decide (J f.1 = s) := by
    funext f
    by_cases h : J f.1 = s
    · simp [h]
    · have : ¬ (Sum.inr (J f.1) : Key) = Sum.inr s := fun z => h (Sum.inr.inj z)
      simp [h]
  rw [e]
  rfl
theorem GF.valF {F : FF} (h : GF F) {f : List Str × Str} (hf : f ∈ F) : valV (flatF F) (.inr (J f.1)) = some (.str f.2) := by
  have := h.val hf
  rw [val_toK] at this
  rw [val_flatF]
  cases z : F.find? fun g => decide (J g.1 = J f.1) with
  | none => rw [z] at this; cases this
  | some g =>
    rw [z] at this
    have e : g.2 = f.2 := D.str.inj (Option.some.inj this)
    show some (V.str g.2) = _
    rw [e]
theorem go_same {G : FF} (h : GF G) : ∀ (F : FF), (∀ f ∈ F, f ∈ G) → goV (flatF G) (flatF F) = true
  | [], _ => rfl
  | f :: F, hm => by
    show (match valV (flatF G) (.inr (J f.1)) with
      | none => false
      | some y => eqV (.str f.2) y && goV (flatF G) (flatF F)) = true
    rw [h.valF (hm f List.mem_cons_self)]
    dsimp only
    rw [go_same h F fun g hg => hm g (List.mem_cons_of_mem _ hg), Bool.and_true]
    show (f.2 == f.2) = true
    simp
theorem SameM.symm {F G : FF} (s : SameM F G) : SameM G F := fun f => (s f).symm
theorem SameM.trans {F G K : FF} (s : SameM F G) (t : SameM G K) : SameM F K := fun f => (s f).trans (t f)
theorem toK_len (F : FF) : (toK F).length = F.length := by unfold toK; rw [List.length_map]
theorem eq_same {F G : FF} (hF : GF F) (hG : GF G) (s : SameM F G) : eqD3 (.dct (toK F)) (.dct (toK G)) = some true := by
  show (none : Option Bool).or (if (toK F).length = (toK G).length then (flatK (toK F)).bind fun a => (flatK (toK G)).map fun b => goV b a else some false) = _
  have len := (hG.of_same s hF.nd).2
  rw [toK_len, toK_len, if_pos len, flatK_toK, flatK_toK]
  show some (goV (flatF G) (flatF F)) = _
  rw [go_same hG F fun f hf => (s f).mp hf]
theorem ne_same {F G : FF} (hF : GF F) (hG : GF G) (s : SameM F G) : neD3 (.dct (toK F)) (.dct (toK G)) = some false := by
  have e := eq_same hF hG s
  show (none : Option Bool).or ((eqK (.dct (toK F)) (.dct (toK G))).map (!·)) = _
  have e : eqK (.dct (toK F)) (.dct (toK G)) = some true := e
  rw [e]
  rfl
/-! ### trees -/
def tre (F : FF) (B : List (Key × D)) : D := .ins "Tree" [.dct (toK F), .dct B]
theorem files_ok (F : FF) (B : List (Key × D)) (R : Sr) : mf_Tree_files [tre F B] R = some (.dct (toK F), R) := by kernel_rfl
theorem isC (c : Str) (ds : List D) : isC2 c [.ins c ds, .cls c] = some (.bl true) := by
  unfold isC2 isCD insOf
  simp
theorem eq_ok {F G : FF} (hF : GF F) (hG : GF G) (s : SameM F G) (B1 B2 : List (Key × D)) (R : Sr) : mf_Tree___eq__ [tre F B1, tre G B2] R = some (.bl true, R) := by
  refine def_rt (ret_of ?_)
  refine (bind_ok (a := .bl true) (s1 := R) (fun_okD (cons_ok rfl (cons_ok rfl rfl)) (isC _ _))).trans ?_
  refine (bind_ok (a := true) (s1 := R) rfl).trans ?_
  refine asE_ok (cmp_ok (x := .dct (toK F)) (y := .dct (toK G)) (R1 := R) (R2 := R) ?_ ?_ (eq_same hF hG s))
  · kernel_rfl
  · kernel_rfl
end K2
set_option Elab.async false
set_option linter.all false
set_option maxRecDepth 100000
set_option maxHeartbeats 1000000
namespace K2
open PySem PySem.Spec PyProof.Rows L2 Nb RZ
/-! ### the law's own look at files: what it finds beneath a folder -/
abbrev SS := List (Str × Str)
def toS (L : SS) : List (Key × D) := L.map fun p => (Sum.inr p.1, D.str p.2)
def putS (L : SS) (a b : Str) : SS := if L.any (fun p => decide (p.1 = a)) then L.map (fun p => if p.1 = a then (p.1, b) else p) else L ++ [(a, b)]
theorem put_toS (L : SS) (a b : Str) : putD (toS L) (.inr a) (.str b) = toS (putS L a b) := by
  have ea : ((toS L).any fun kv => decide (kv.1 = Sum.inr a)) = L.any fun p => decide (p.1 = a) := by
    unfold toS
    rw [List.any_map]
    congr 1
    funext p
    show decide ((Sum.inr p.1 : Key) = Sum.inr a) = _
    by_cases e : p.1 = a
    · rw [decide_eq_true e, decide_eq_true (by rw [e])]
    · rw [decide_eq_false e, decide_eq_false fun z => e (Sum.inr.inj z)]
  unfold putD putS
  rw [ea]
  split
  · unfold toS
    rw [List.map_map, List.map_map]
    apply List.map_congr_left
    intro p _
    show (if (Sum.inr p.1 : Key) = Sum.inr a then ((Sum.inr p.1 : Key), D.str b) else (Sum.inr p.1, D.str p.2)) = ((Sum.inr (if p.1 = a then (p.1, b) else p).1 : Key), D.str (if p.1 = a then (p.1, b) else p).2)
    by_cases e : p.1 = a
    · rw [if_pos e, if_pos (by rw [e])]
    · rw [if_neg e, if_neg fun z => e (Sum.inr.inj z)]
  · unfold toS
    rw [List.map_append]
    rfl
structure Lp (L P : SS) : Prop where
  nd : (L.map (·.1)).Nodup
  mem : ∀ p, p ∈ L ↔ p ∈ P
  len : L.length ≤ P.length
theorem Lp.nil : Lp [] [] := ⟨List.nodup_nil, fun _ => Iff.rfl, Nat.le_refl _⟩
theorem Lp.put {L P : SS} (h : Lp L P) {a b : Str} (hf : ∀ b', (a, b') ∈ P → b' = b) : Lp (putS L a b) (P ++ [(a, b)]) := by
  unfold putS
  split
  · rename_i ha
    obtain ⟨p, hp, e⟩ := List.any_eq_true.mp ha
    have e : p.1 = a := of_decide_eq_true e
    have hid : L.map (fun p => if p.1 = a then (p.1, b) else p) = L := by
      conv => rhs; rw [← List.map_id L]
      apply List.map_congr_left
      intro q hq
      by_cases z : q.1 = a
      · rw [if_pos z]
        obtain ⟨q1, q2⟩ := q
        have z : q1 = a := z
        subst z
        rw [hf q2 ((h.mem _).mp hq)]
        rfl
      · rw [if_neg z]; rfl
    rw [hid]
    refine ⟨h.nd, fun q => ?_, by rw [List.length_append]; have := h.len; omega⟩
    rw [h.mem q, List.mem_append, List.mem_singleton]
    refine ⟨.inl, ?_⟩
    rintro (z | rfl)
    · exact z
    · obtain ⟨p1, p2⟩ := p
      have e : p1 = a := e
      subst e
      have := (h.mem _).mp hp
      rw [hf p2 this] at this
      exact this
  · rename_i ha
    refine ⟨?_, fun q => ?_, by rw [List.length_append, List.length_append]; have := h.len; simp only [List.length_singleton]; omega⟩
    · rw [List.map_append, List.map_singleton]
      refine List.nodup_append.mpr ⟨h.nd, List.nodup_cons.mpr ⟨fun z => (nomatch z), List.nodup_nil⟩, fun x hx y hy => ?_⟩
      rw [List.mem_singleton.mp hy]
      obtain ⟨p, hp, rfl⟩ := List.mem_map.mp hx
      exact fun z => ha (List.any_eq_true.mpr ⟨p, hp, decide_eq_true z⟩)
    · rw [List.mem_append, List.mem_append, h.mem q]
/-- names and marks beneath the folder m -/
def ML (m : List Str) (F : FF) : SS := (F.filter fun f => pre m f.1).map fun f => (f.1.getD m.length "", mark f.1 (m.length - 1))
theorem ML_mem {m : List Str} {F : FF} {p : Str × Str} : p ∈ ML m F ↔ ∃ f ∈ F, pre m f.1 = true ∧ p = (f.1.getD m.length "", mark f.1 (m.length - 1)) := by
  unfold ML
  rw [List.mem_map]
  constructor
  · rintro ⟨f, hf, rfl⟩
    obtain ⟨h1, h2⟩ := List.mem_filter.mp hf
    exact ⟨f, h1, h2, rfl⟩
  · rintro ⟨f, h1, h2, rfl⟩
    exact ⟨f, List.mem_filter.mpr ⟨h1, h2⟩, rfl⟩
theorem stk_stroke (l : List Str) (k : Nat) : Stk (stroke l k) := by
  unfold stroke Stk
  split
  · exact .inr rfl
  · exact .inl rfl
theorem getD_mid (m c : List Str) (x : Str) : (m ++ x :: c).getD m.length "" = x := by
  rw [List.getD_eq_getElem?_getD, List.getElem?_append_right (Nat.le_refl _), Nat.sub_self]
  rfl
/-- a file beneath the folder m -/
theorem beneath {m : List Str} (hm : m ≠ []) {f : List Str × Str} (h : pre m f.1 = true) : ∃ x c, f.1 = m ++ x :: c ∧ f.1.getD m.length "" = x ∧ mark f.1 (m.length - 1) = x ++ (if c = [] then ("" : Str) else "/") := by
  obtain ⟨c, hc, e⟩ := pre_iff.mp h
  match c, hc with
  | x :: c, _ =>
    refine ⟨x, c, e, ?_, ?_⟩
    · rw [e, getD_mid]
    · have hp := List.length_pos_iff.mpr hm
      have e1 : m.length - 1 + 1 = m.length := by omega
      unfold mark stroke
      rw [e1, e, getD_mid, List.length_append, List.length_cons]
      congr 1
      by_cases z : c = []
      · rw [if_pos z, z, if_neg (by simp; omega)]
      · have := List.length_pos_iff.mpr z
        rw [if_neg z, if_pos (by omega)]
theorem ML_fun {F : FF} (h : GF F) {m : List Str} (hm : m ≠ []) {p q : Str × Str} (hp : p ∈ ML m F) (hq : q ∈ ML m F) (e : p.1 = q.1) : p.2 = q.2 := by
  obtain ⟨f, hf, pf, rfl⟩ := ML_mem.mp hp
  obtain ⟨g, hg, pg, rfl⟩ := ML_mem.mp hq
  obtain ⟨x, c, e1, e2, e3⟩ := beneath hm pf
  obtain ⟨y, d, e4, e5, e6⟩ := beneath hm pg
  have e : x = y := by rw [← e2, ← e5]; exact e
  subst e
  show mark f.1 _ = mark g.1 _
  rw [e3, e6]
  have no : ∀ {f g : List Str × Str} {d : List Str}, f ∈ F → g ∈ F → f.1 = m ++ [x] → g.1 = m ++ x :: d → d = [] := fun {f g d} hf hg a b => by
    apply Classical.byContradiction
    intro z
    have := h.apart2 hf hg
    have p : pre f.1 g.1 = true := pre_iff.mpr ⟨d, z, by rw [a, b]; simp⟩
    rw [this] at p; cases p
  by_cases z : c = []
  · subst z
    rw [no hf hg e1 e4]
  · by_cases z2 : d = []
    · subst z2
      exact absurd (no hg hf e4 e1) z
    · rw [if_neg z, if_neg z2]
/-- the program's marks, the law's marks -/
theorem marks_mem {F : FF} (h : GF F) {m : List Str} (hm : GP m) {z : Str} : z ∈ marksOf (PF F) (J m) ↔ ∃ p ∈ ML m F, p.2 = z := by
  unfold marksOf
  rw [List.mem_map]
  constructor
  · rintro ⟨p, hp, rfl⟩
    obtain ⟨h1, h2⟩ := List.mem_filter.mp hp
    have h2 := of_decide_eq_true h2
    unfold PF at h1
    obtain ⟨f, hf, h1⟩ := List.mem_flatMap.mp h1
    unfold prs at h1
    obtain ⟨k, hk, rfl⟩ := List.mem_map.mp h1
    have hk := List.mem_range.mp hk
    have gp := h.gp f hf
    have gt : GP (f.1.take (k + 1)) := ⟨by rw [List.length_take]; omega, by rw [List.length_take]; have := gp.2.1; omega, take_nm gp.2.2 _⟩
    have em : f.1.take (k + 1) = m := (J_iff gt hm).mp h2
    have lm : m.length = k + 1 := by rw [← em, List.length_take]; omega
    refine ⟨_, ML_mem.mpr ⟨f, hf, pre_iff.mpr ⟨f.1.drop (k + 1), fun z => ?_, ?_⟩, rfl⟩, ?_⟩
    · have := congrArg List.length z
      rw [List.length_drop] at this
      simp at this
      omega
    · rw [← em, List.take_append_drop]
    · show mark f.1 (m.length - 1) = mark f.1 k
      rw [lm]
      rfl
  · rintro ⟨p, hp, rfl⟩
    obtain ⟨f, hf, pf, rfl⟩ := ML_mem.mp hp
    obtain ⟨c, hc, e⟩ := pre_iff.mp pf
    have l1 := hm.1
    have lc := List.length_pos_iff.mpr hc
    have lf : f.1.length = m.length + c.length := by rw [e, List.length_append]
    refine ⟨(J m, mark f.1 (m.length - 1)), List.mem_filter.mpr ⟨?_, decide_eq_true rfl⟩, rfl⟩
    unfold PF
    refine List.mem_flatMap.mpr ⟨f, hf, ?_⟩
    unfold prs
    refine List.mem_map.mpr ⟨m.length - 1, List.mem_range.mpr (by omega), ?_⟩
    have e1 : m.length - 1 + 1 = m.length := by omega
    rw [e1, e, List.take_left]
/-- the value found at a name -/
def vS (L : SS) (s : Str) : Str := ((L.find? fun p => decide (p.1 = s)).map (·.2)).getD ""
theorem val_toS (L : SS) (s : Str) : valD (toS L) (.inr s) = (L.find? fun p => decide (p.1 = s)).map fun p => .str p.2 := by
  unfold valD toS
  rw [List.find?_map, Option.map_map]
  have e : ((fun kv : Key × D => decide (kv.1 = Sum.inr s)) ∘ fun p : Str × Str => ((Sum.inr p.1 : Key), D.str p.2)) = fun p => decide (p.1 = s) := by
    funext p
    by_cases h : p.1 = s
    · simp [h]
    · have : ¬ (Sum.inr p.1 : Key) = Sum.inr s := fun z => h (Sum.inr.inj z)
      simp [h]
  rw [e]
  rfl
theorem find_key {L : SS} {s : Str} (h : s ∈ L.map (·.1)) : ∃ p, L.find? (fun p => decide (p.1 = s)) = some p ∧ p ∈ L ∧ p.1 = s := by
  cases e : L.find? fun p => decide (p.1 = s) with
  | none =>
    obtain ⟨q, hq, hs⟩ := List.mem_map.mp h
    exact absurd (decide_eq_true hs) (by simpa using List.find?_eq_none.mp e q hq)
  | some p => exact ⟨p, rfl, List.mem_of_find?_eq_some e, of_decide_eq_true (p := p.1 = s) (List.find?_some (p := fun p : Str × Str => decide (p.1 = s)) e)⟩
theorem find_nd : ∀ {L : SS} {p : Str × Str}, (L.map (·.1)).Nodup → p ∈ L → L.find? (fun q => decide (q.1 = p.1)) = some p
  | q :: L, p, nd, hp => by
    rw [List.map_cons] at nd
    obtain ⟨n1, n2⟩ := List.nodup_cons.mp nd
    rcases List.mem_cons.mp hp with rfl | hp
    · simp
    · have : q.1 ≠ p.1 := fun z => n1 (by rw [z]; exact List.mem_map_of_mem hp)
      rw [List.find?_cons, decide_eq_false this]
      exact find_nd n2 hp
theorem vS_mem {L P : SS} (h : Lp L P) {p : Str × Str} (hp : p ∈ P) : vS L p.1 = p.2 := by
  unfold vS
  rw [find_nd h.nd ((h.mem p).mpr hp)]
  rfl
theorem keysS_toS (L : SS) : keysS (toS L) = some (L.map (·.1)) := by
  induction L with
  | nil => rfl
  | cons p L ih =>
    show (keysS (toS L)).map (p.1 :: ·) = _
    rw [ih]
    rfl
/-- both looks show the same names in the same order -/
theorem shown_same {F : FF} (h : GF F) {m : List Str} (hm : GP m) {L : SS} (hL : Lp L (ML m F)) : (srt (L.map (·.1))).map (vS L) = srt (dedupS (marksOf (PF F) (J m))) := by
  have key : ∀ {s : Str}, s ∈ srt (L.map (·.1)) → ∃ x t, s = x ∧ NameOk x = true ∧ Stk t ∧ vS L s = x ++ t ∧ (s, vS L s) ∈ ML m F := fun {s} hs => by
    obtain ⟨p, hp, rfl⟩ := List.mem_map.mp (srt_mem.mp hs)
    have hp := (hL.mem p).mp hp
    have e := vS_mem hL hp
    obtain ⟨f, hf, pf, rfl⟩ := ML_mem.mp hp
    obtain ⟨x, c, e1, e2, e3⟩ := beneath hm.ne pf
    refine ⟨x, if c = [] then "" else "/", e2, (h.gp f hf).2.2 x (by rw [e1]; simp), ?_, by rw [← e3]; exact e, by rw [e]; exact hp⟩
    split
    · exact .inl rfl
    · exact .inr rfl
  refine srt_eq ?_ ?_
  · refine (List.perm_ext_iff_of_nodup ?_ (dedupS_nodup _)).mpr fun z => ?_
    · refine List.pairwise_map.mpr ?_
      have nd : (srt (L.map (·.1))).Nodup := (srt_perm _).nodup_iff.mpr hL.nd
      refine (List.Pairwise.and_mem.mp nd).imp fun {a b} hab e => ?_
      obtain ⟨ha, hb, ne⟩ := hab
      obtain ⟨x, t, rfl, nx, st, e1, _⟩ := key ha
      obtain ⟨y, u, rfl, ny, su, e2, _⟩ := key hb
      rw [e1, e2] at e
      exact ne (app_inj nx ny st su e)
    · rw [dedupS_mem, marks_mem h hm, List.mem_map]
      constructor
      · rintro ⟨s, hs, rfl⟩
        obtain ⟨_, _, _, _, _, _, hp⟩ := key hs
        exact ⟨_, hp, rfl⟩
      · rintro ⟨p, hp, rfl⟩
        exact ⟨p.1, srt_mem.mpr (List.mem_map_of_mem ((hL.mem p).mpr hp)), vS_mem hL hp⟩
  · refine List.pairwise_map.mpr ((List.Pairwise.and_mem.mp (srt_pw (L.map (·.1)))).imp fun {a b} hab => ?_)
    obtain ⟨ha, hb, le⟩ := hab
    by_cases z : a = b
    · subst z
      rcases leS_total (vS L a) (vS L a) with q | q <;> exact q
    · obtain ⟨x, t, rfl, nx, st, e1, _⟩ := key ha
      obtain ⟨y, u, rfl, ny, su, e2, _⟩ := key hb
      rw [e1, e2]
      exact le_app ny le z st
end K2
set_option Elab.async false
set_option linter.all false
set_option maxRecDepth 100000
set_option maxHeartbeats 4000000
namespace K2
open PySem PySem.Spec PyProof.Rows L2 Nb RZ
theorem starts_J {a b : List Str} (ha : GP a) (hb : GP b) : Txt.startswith (J a) (J b ++ "/") = pre b a := by
  have ny : TL.tl (J b ++ "/") ≠ [] := by
    show cl (J b ++ "/") ≠ []
    rw [cl_app, cl_sl]; simp
  have h1 : Txt.startswith (J a) (J b ++ "/") = true ↔ pre b a = true := by
    have i1 : Txt.startswith (J a) (J b ++ "/") = true ↔ StrLaws.At (J a) (J b ++ "/") (J a).length 0 := by
      unfold Txt.startswith
      rw [Bool.and_eq_true, decide_eq_true_eq]
      rfl
    rw [i1, TL.at_iff ny, pre_iff]
    show (((cl (J a)).drop 0).take (cl (J b ++ "/")).length == cl (J b ++ "/")) = true ↔ _
    rw [beq_iff_eq, List.drop_zero, cl_app, cl_sl, cl_J, cl_J, List.length_append, List.length_singleton]
    rw [jn_take (by simpa using ha.ne) (by simpa using hb.ne) ha.fr.fr hb.fr.fr]
    constructor
    · rintro ⟨c, c1, c2⟩
      refine ⟨a.drop b.length, fun z => ?_, ?_⟩
      · have := congrArg List.length z
        have l := congrArg List.length c2
        have := List.length_pos_iff.mpr c1
        simp at *
        omega
      · apply map_cl_inj
        rw [List.map_append, List.map_drop, c2]
        have : (b.map cl).length = b.length := by simp
        rw [← this, List.drop_left]
    · rintro ⟨c, hc, rfl⟩
      exact ⟨c.map cl, by simpa using hc, by simp⟩
  cases hp : pre b a with
  | true => exact h1.mpr hp
  | false =>
    cases hs : Txt.startswith (J a) (J b ++ "/") with
    | false => rfl
    | true => rw [hp] at h1; exact absurd (h1.mp hs) (by decide)
theorem beneath_ok {a b : List Str} (ha : GP a) (hb : GP b) (R : Sr) : mf_is_beneath [.str (J a), .str (J b)] R = some (.bl (pre b a), R) := by
  have lb : (J b).length + ("/" : Str).length ≤ sizeLine := by
    have := hb.len
    have sl : ("/" : Str).length = 1 := by decide +kernel
    rw [sizeLine_eq, sl]; omega
  refine def_rt (ret_of (op_ok (x := .str (J a)) (y := .str (J b ++ "/")) (R1 := R) (R2 := R) rfl (op_ok (x := .str (J b)) (y := .str "/") (R1 := R) (R2 := R) rfl rfl ?_) ?_))
  · show orF addI (orF addS (orF addL addT)) _ _ = _
    simp only [orF, addI, addS, if_pos lb]
    rfl
  · show some (D.bl (Txt.startswith (J a) (J b ++ "/"))) = _
    rw [starts_J ha hb]
def kin (a b : List Str) : Bool := decide (a = b) || (pre b a || pre a b)
theorem eqD_str (a b : Str) : eqD3 (.str a) (.str b) = some (decide (a = b)) := by
  show (orF eqD eqK) _ _ = _
  simp [orF, eqD, eqS, vD, scal]
theorem kin_ok {a b : List Str} (ha : GP a) (hb : GP b) (R : Sr) : mf_is_kin [.str (J a), .str (J b)] R = some (.bl (kin a b), R) := by
  have e0 : decide (J a = J b) = decide (a = b) := by
    by_cases z : a = b
    · rw [decide_eq_true z, decide_eq_true (by rw [z])]
    · rw [decide_eq_false z, decide_eq_false fun q => z ((J_iff ha hb).mp q)]
  refine def_rt (ret_of ?_)
  refine (bind_ok (a := .bl (decide (a = b))) (s1 := R) (asE_ok (cmp_ok (R1 := R) rfl rfl (by rw [eqD_str, e0])))).trans ?_
  refine (bind_ok (a := decide (a = b)) (s1 := R) rfl).trans ?_
  unfold kin
  cases decide (a = b) with
  | true => rfl
  | false =>
    refine (bind_ok (a := .bl (pre b a)) (s1 := R) (call_ok' (xs := [.str (J a), .str (J b)]) (R1 := R) rfl rfl (beneath_ok ha hb R))).trans ?_
    refine (bind_ok (a := pre b a) (s1 := R) rfl).trans ?_
    cases pre b a with
    | true => rfl
    | false => exact call_ok' (xs := [.str (J b), .str (J a)]) (R1 := R) rfl rfl (beneath_ok hb ha R)
theorem comp_filter {i : Nat} {mt : Tau → M Bool} {me : ME} {τ : Tau} {R : Sr} {p : Str → Bool} {f : Str → D} : ∀ (ss : List Str), (∀ s ∈ ss, mt (τ.set i (some (.str s))) R = some (p s, R)) → (∀ s ∈ ss, p s = true → me (τ.set i (some (.str s))) R = some (f s, R)) →
    compS (gN i) mt me [i] τ (ss.map D.str) R = some ((ss.filter p).map f, R)
  | [], _, _ => rfl
  | s :: ss, ht, he => by
    have ih := comp_filter (p := p) (f := f) ss (fun t h => ht t (List.mem_cons_of_mem _ h)) (fun t h => he t (List.mem_cons_of_mem _ h))
    have h1 := ht s List.mem_cons_self
    have c1 : (opt (if ([(i, D.str s)] : List (Nat × D)).all (fun p => ([i] : List Nat).contains p.1) then some [(i, D.str s)] else none) : M (List (Nat × D))) R = some ([(i, D.str s)], R) := by
      simp [opt]
    rw [List.map_cons]
    cases hp : p s with
    | true =>
      rw [hp] at h1
      have h2 := he s List.mem_cons_self hp
      rw [List.filter_cons, hp, if_pos rfl, List.map_cons]
      refine (bind_ok (a := [(i, D.str s)]) (s1 := R) rfl).trans ?_
      refine (bind_ok c1).trans ?_
      refine (bind_ok (a := true) (s1 := R) h1).trans ?_
      refine (bind_ok (a := [f s]) (s1 := R) ((bind_ok h2).trans rfl)).trans ?_
      exact (bind_ok ih).trans rfl
    | false =>
      rw [hp] at h1
      rw [List.filter_cons, hp, if_neg (by decide)]
      refine (bind_ok (a := [(i, D.str s)]) (s1 := R) rfl).trans ?_
      refine (bind_ok c1).trans ?_
      refine (bind_ok (a := false) (s1 := R) h1).trans ?_
      refine (bind_ok (a := []) (s1 := R) rfl).trans ?_
      exact (bind_ok ih).trans rfl
def Same (rc : List D → M D) (d : D) : Prop := ∀ R, rc [d, d] R = some (.bl true, R)
theorem isi_lt_t (ds : List D) : isiD [.tup ds, .tup [.ty "list", .ty "tuple"]] = some (.bl true) := by kernel_rfl
theorem isi_t_l (ds : List D) : isiD [.tup ds, .ty "list"] = some (.bl false) := by kernel_rfl
theorem isi_t_t (ds : List D) : isiD [.tup ds, .ty "tuple"] = some (.bl true) := by kernel_rfl
theorem zip_comp (rc : List D → M D) (a b : Option D) (R : Sr) : ∀ ds : List D, (∀ d ∈ ds, Same rc d) → compS (gT 2 (gsC (gN 2) (gsC (gN 3) gs0))) tYesM (mCall 2 [] rc (mCons (mV 2) (mCons (mV 3) (fun _ => pure [])))) [2, 3] [a, b, none, none] (zipD ds ds) R = some (ds.map fun _ => .bl true, R)
  | [], _ => rfl
  | d :: ds, h => by
    have ih := zip_comp rc a b R ds fun e he => h e (List.mem_cons_of_mem _ he)
    have hd := h d List.mem_cons_self R
    have hz : zipD (d :: ds) (d :: ds) = .tup [d, d] :: zipD ds ds := rfl
    rw [hz]
    have hm : mCall 2 [] rc (mCons (mV 2) (mCons (mV 3) (fun _ => pure []))) (setAllT [a, b, none, none] [(2, d), (3, d)]) R = some (.bl true, R) := by
      simp [setAllT, bind, M.bind, pure, M.pure, opt, mCall, mCons, mV, hd]
    refine (bind_ok (a := [(2, d), (3, d)]) (s1 := R) rfl).trans ?_
    refine (bind_ok (a := [(2, d), (3, d)]) (s1 := R) rfl).trans ?_
    refine (bind_ok (a := true) (s1 := R) rfl).trans ?_
    refine (bind_ok (a := [D.bl true]) (s1 := R) ((bind_ok hm).trans rfl)).trans ?_
    exact (bind_ok ih).trans rfl
theorem bls_true (ds : List D) : blsD (ds.map fun _ => D.bl true) = some (ds.map fun _ => true) := by
  induction ds with
  | nil => rfl
  | cons d ds ih => simp [blsD, ih]
theorem all_true (ds : List D) : (ds.map fun _ : D => true).all id = true := by simp
theorem same_tup (rc : List D → M D) (ds : List D) (hl : ds.length ≤ 1000) (h : ∀ d ∈ ds, Same rc d) : Same (mf_law_same rc) (.tup ds) := by
  intro R
  have hz := zip_comp rc (some (.tup ds)) (some (.tup ds)) R ds h
  have hl2 : ds.length ≤ 16000000 := by omega
  simp only [pure] at hz
  simp [mf_law_same, mDef, mb_law_same, startD, mSeq, mIfS, evT, viewB, mTru, mFun, mCons, mV, mC, mTup, mOrT, mCmp, isi_lt_t, isi_t_l, isi_t_t, bind, M.bind, pure, M.pure, opt, truD, neD3, neD, eqD3, eqD, orF, eqS, vD, scal, mNil, mRet, evA, viewA, mAnd, asE, lenD, orL, lenV, mFz, mComp, mFunI, zipF, wipeD, hz, hl2, ownD, allD, bls_true, all_true]
theorem same_non (rc : List D → M D) : Same (mf_law_same rc) .non := fun R => by kernel_rfl
theorem same_str (rc : List D → M D) (s : Str) : Same (mf_law_same rc) (.str s) := by
  intro R
  have h1 : isiD [.str s, .tup [.ty "list", .ty "tuple"]] = some (.bl false) := by kernel_rfl
  have h2 : isiD [.str s, .ty "int"] = some (.bl false) := by kernel_rfl
  have h3 : isiD [.str s, .tup [.ty "int", .ty "list", .ty "tuple"]] = some (.bl false) := by kernel_rfl
  simp [mf_law_same, mDef, mb_law_same, startD, mSeq, mIfS, evT, viewB, mTru, mFun, mCons, mV, mC, mTup, mCmp, h1, h2, h3, bind, M.bind, pure, M.pure, opt, truD, eqD3, eqD, orF, eqS, vD, scal, mNil, mRet, evA, viewA, mAnd, asE, mNot]
theorem isi_lt_l (ds : List D) : isiD [.lst ds, .tup [.ty "list", .ty "tuple"]] = some (.bl true) := by kernel_rfl
theorem isi_l_l (ds : List D) : isiD [.lst ds, .ty "list"] = some (.bl true) := by kernel_rfl
theorem isi_l_t (ds : List D) : isiD [.lst ds, .ty "tuple"] = some (.bl false) := by kernel_rfl
theorem same_lst (rc : List D → M D) (ds : List D) (hl : ds.length ≤ 1000) (h : ∀ d ∈ ds, Same rc d) : Same (mf_law_same rc) (.lst ds) := by
  intro R
  have hz := zip_comp rc (some (.lst ds)) (some (.lst ds)) R ds h
  have hl2 : ds.length ≤ 16000000 := by omega
  simp only [pure] at hz
  simp [mf_law_same, mDef, mb_law_same, startD, mSeq, mIfS, evT, viewB, mTru, mFun, mCons, mV, mC, mTup, mOrT, mCmp, isi_lt_l, isi_l_l, isi_l_t, bind, M.bind, pure, M.pure, opt, truD, neD3, neD, eqD3, eqD, orF, eqS, vD, scal, mNil, mRet, evA, viewA, mAnd, asE, lenD, orL, lenV, mFz, mComp, mFunI, zipF, wipeD, hz, hl2, ownD, allD, bls_true, all_true]

/-- a tuple of texts, by the law's own look of some depth -/
theorem same_texts (xs : List Str) (hl : xs.length ≤ 1000) : Same (mf_law_same (mf_law_same mNone)) (.tup (xs.map D.str)) := same_tup _ _ (by rw [List.length_map]; exact hl) fun d hd => by
  obtain ⟨s, _, rfl⟩ := List.mem_map.mp hd
  exact same_str _ s
theorem same_rows (ds : List D) (hl : ds.length ≤ 1000) (h : ∀ d ∈ ds, ∃ xs : List Str, d = .tup (xs.map D.str) ∧ xs.length ≤ 1000) (R : Sr) : mr_law_same 3 [.lst ds, .lst ds] R = some (.bl true, R) := by
  show mf_law_same (mf_law_same (mf_law_same mNone)) [.lst ds, .lst ds] R = _
  exact same_lst _ _ hl (fun d hd => by
    obtain ⟨xs, rfl, h2⟩ := h d hd
    exact same_texts xs h2) R
theorem same_int (rc : List D → M D) (i : Int) : Same (mf_law_same rc) (.int i) := by
  intro R
  have h1 : isiD [.int i, .tup [.ty "list", .ty "tuple"]] = some (.bl false) := by kernel_rfl
  have h2 : isiD [.int i, .ty "int"] = some (.bl true) := by kernel_rfl
  have h3 : isiD [.int i, .ty "bool"] = some (.bl false) := by kernel_rfl
  simp [mf_law_same, mDef, mb_law_same, startD, mSeq, mIfS, evT, viewB, mTru, mFun, mCons, mV, mC, mTup, mCmp, h1, h2, h3, bind, M.bind, pure, M.pure, opt, truD, eqD3, eqD, orF, eqS, vD, scal, mNil, mRet, evA, viewA, mAnd, asE]
theorem same_bl (rc : List D → M D) (i : Bool) : Same (mf_law_same rc) (.bl i) := by
  intro R
  have h1 : isiD [.bl i, .tup [.ty "list", .ty "tuple"]] = some (.bl false) := by kernel_rfl
  have h2 : isiD [.bl i, .ty "int"] = some (.bl true) := by kernel_rfl
  have h3 : isiD [.bl i, .ty "bool"] = some (.bl true) := by kernel_rfl
  simp [mf_law_same, mDef, mb_law_same, startD, mSeq, mIfS, evT, viewB, mTru, mFun, mCons, mV, mC, mTup, mCmp, h1, h2, h3, bind, M.bind, pure, M.pure, opt, truD, eqD3, eqD, orF, eqS, vD, scal, mNil, mRet, evA, viewA, mAnd, asE]
theorem mk_ok {c : Str} {n : Nat} {mi : List D → M (List D)} {ms : Tau → M (List D)} {τ : Tau} {R R1 R' : Sr} {xs fs : List D} (h : ms τ R = some (xs, R1)) (hl : xs.length = n) (k : mi xs R1 = some (fs, R')) : mMake c n [] mi ms τ R = some (.ins c fs, R') := by
  refine (bind_ok h).trans ?_
  refine (bind_ok (a := fs) (s1 := R') ?_).trans rfl
  rw [if_pos (by rw [List.length_nil, Nat.add_zero]; exact hl), List.append_nil]
  exact k
theorem methO_ok {c : Str} {n : Nat} {mf : List D → M Own} {mo : ME} {ms : Tau → M (List D)} {τ : Tau} {R R1 R2 R' : Sr} {x : D} {ob : Own} {xs : List D} (h : mo τ R = some (x, R1)) (k : ms τ R1 = some (xs, R2)) (hi : insOf c x = true) (hl : xs.length + 1 = n) (e : mf (x :: xs) R2 = some (ob, R')) : mMethO c n [] mf mo ms τ R = some (ob, R') := by
  refine (bind_ok h).trans ((bind_ok k).trans ?_)
  rw [if_pos ⟨hi, by rw [List.length_nil, Nat.add_zero]; exact hl⟩, List.append_nil]
  exact e
theorem ins_tre (F : FF) (B : List (Key × D)) : insOf "Tree" (tre F B) = true := by unfold insOf tre; simp
abbrev V_ (d : D) : Option Sv := some (.val d)
def keysJ (F : FF) : List Str := F.map fun f => J f.1
theorem ownEqT_ok {F G : FF} (hF : GF F) (hG : GF G) (s : SameM F G) {B1 B2 : List (Key × D)} {ma mb : ME} {τ : Tau} {R R1 R2 : Sr} (h : ma τ R = some (tre F B1, R1)) (k : mb τ R1 = some (tre G B2, R2)) : mOwnEqT "Tree" mf_Tree___eq__ ma mb τ R = some (true, R2) := by
  refine (bind_ok h).trans ((bind_ok k).trans ?_)
  have ty : tyD "Tree" (tre G B2) = true := by unfold tyD tre; simp
  rw [if_pos ⟨ins_tre F B1, ty⟩]
  refine (bind_ok (eq_ok hF hG s B1 B2 R2)).trans rfl
theorem meth_ok {c : Str} {n : Nat} {mf : List D → M D} {mo : ME} {ms : Tau → M (List D)} {τ : Tau} {R R1 R2 R' : Sr} {x d : D} {xs : List D} (h : mo τ R = some (x, R1)) (k : ms τ R1 = some (xs, R2)) (hi : insOf c x = true) (hl : xs.length + 1 = n) (e : mf (x :: xs) R2 = some (d, R')) : mMeth c n [] mf mo ms τ R = some (d, R') := by
  refine (bind_ok h).trans ((bind_ok k).trans ?_)
  rw [if_pos ⟨hi, by rw [List.length_nil, Nat.add_zero]; exact hl⟩, List.append_nil]
  exact e
theorem sorted_J {F : FF} (h : GF F) {i : Nat} {τ : Tau} {R : Sr} (hi : τ[i]? = some (some (.dct (toK F)))) : mSeqI (mFz (mFunO sortO (mCons (mV i) (fun _ => pure [])))) τ R = some ((srt (keysJ F)).map D.str, R) := by
  have := h.few
  have a : mFz (mFunO sortO (mCons (mV i) (fun _ => pure []))) τ R = some (.lst ((srt (keysJ F)).map D.str), R) :=
    fz_ok (ob := .lst ((srt (keysJ F)).map D.str)) (funO_okD (xs := [.dct (toK F)]) (R1 := R) (cons_ok (mV_ok hi) rfl) (sort_dct (by omega))) rfl
  exact (bind_ok a).trans rfl
theorem srt_dd {xs ys : List Str} (h : ∀ s, s ∈ xs ↔ s ∈ ys) : srt (dedupS xs) = srt (dedupS ys) :=
  srt_eq ((srt_perm _).trans ((List.perm_ext_iff_of_nodup (dedupS_nodup _) (dedupS_nodup _)).mpr fun s => by rw [dedupS_mem, dedupS_mem, h])) (srt_pw _)
theorem two_ok {i j : Nat} {e1 e2 : TauS → M Sv} {τ : TauS} {R R1 R2 : Sr} {a b : Sv} (h : e1 τ R = some (a, R1)) (k : e2 τ R1 = some (b, R2)) : mTwo i j e1 e2 τ R = .nx ((τ.set i (some a)).set j (some b)) R2 := by
  unfold mTwo
  rw [h]
  dsimp only
  rw [k]
end K2
set_option Elab.async false
set_option linter.all false
set_option maxRecDepth 100000
set_option maxHeartbeats 1000000
namespace K2
open PySem PySem.Spec PyProof.Rows L2 Nb RZ
/-! ### first names -/
def hdS (s : Str) : Str := (Txt.split s "/").getD 0 ""
theorem hd_J {l : List Str} (h : GP l) : hdS (J l) = l.getD 0 "" := by unfold hdS; rw [J_split h.ne h.fr]
theorem part_J {x : Str} {r : List Str} (h : GP (x :: r)) : (Txt.partition (J (x :: r)) "/").1 = x := by
  have hx : 47 ∉ TL.tl x := h.fr x List.mem_cons_self
  have ey : TL.tl "/" = 47 :: [] := cl_sl
  cases r with
  | nil =>
    have e : J [x] = x := cl_inj (by rw [cl_J]; rfl)
    rw [e, TL.partition_none ey hx]
  | cons y r =>
    have e : J (x :: y :: r) = x ++ "/" ++ J (y :: r) := cl_inj (by
      rw [cl_J, cl_app, cl_app, cl_sl, cl_J, List.map_cons, jn_cons _ (by simp)]
      simp)
    rw [e, TL.partition_app ey hx]
theorem sub_lst0 (ds : List D) (d : D) : subD (.lst (d :: ds)) (.int 0) = some d := by simp [subD, orF, ixD, L2.atI, ixN]
theorem sub_tup0 (ds : List D) (d : D) : subD (.tup (d :: ds)) (.int 0) = some d := by simp [subD, orF, ixD, L2.atI, ixN]
theorem first_ok {l : List Str} (h : GP l) (R : Sr) : mf_first_of [.str (J l)] R = some (.str (hdS (J l)), R) := by
  cases l with
  | nil => exact absurd rfl h.ne
  | cons x r =>
    have hl := h.len
    have sl : ("/" : Str).length = 1 := by decide +kernel
    refine def_rt (ret_of (op_ok (x := .tup [.str (Txt.partition (J (x :: r)) "/").1, .str (Txt.partition (J (x :: r)) "/").2.1, .str (Txt.partition (J (x :: r)) "/").2.2]) (y := .int 0) (R1 := R) (R2 := R) (op_ok (x := .str (J (x :: r))) (y := .str "/") (R1 := R) (R2 := R) rfl rfl ?_) rfl ?_))
    · show (if ("/" : Str).length ≠ 0 ∧ (J (x :: r)).length ≤ 16000000 then _ else _) = _
      rw [if_pos ⟨by rw [sl]; decide, by omega⟩]
    · rw [sub_tup0, part_J h, hd_J h]
      rfl
/-! ### lists of items -/
theorem items_toK (F : FF) : itemsD (toK F) = F.map fun f => D.tup [.str (J f.1), .str f.2] := by
  unfold itemsD toK
  rw [List.map_map]
  rfl
theorem pairs_items (F : FF) : pairsD (itemsD (toK F)) = some (toK F) := by
  rw [items_toK]
  induction F with
  | nil => rfl
  | cons f F ih =>
    show (some (Sum.inr (J f.1) : Key)).bind (fun k' => (pairsD (F.map fun f => D.tup [.str (J f.1), .str f.2])).map fun r => (k', D.str f.2) :: r) = _
    rw [ih]
    rfl
theorem put_new {F : FF} {s : Str} (h : s ∉ keysJ F) (d : D) : putD (toK F) (.inr s) d = toK F ++ [(Sum.inr s, d)] := by
  unfold putD
  rw [if_neg]
  intro q
  obtain ⟨p, hp, e⟩ := List.any_eq_true.mp q
  have e : p.1 = Sum.inr s := of_decide_eq_true e
  unfold toK at hp
  obtain ⟨f, hf, rfl⟩ := List.mem_map.mp hp
  exact h (List.mem_map.mpr ⟨f, hf, Sum.inr.inj e⟩)
theorem merge_toK : ∀ (B A : FF), (keysJ (A ++ B)).Nodup → mergeD (toK A) (toK B) = toK (A ++ B)
  | [], A, _ => by rw [List.append_nil]; rfl
  | f :: B, A, nd => by
    have e : A ++ f :: B = (A ++ [f]) ++ B := by simp
    have hs : J f.1 ∉ keysJ A := fun h => by
      unfold keysJ at nd h
      rw [List.map_append, List.nodup_append] at nd
      exact nd.2.2 _ h _ (by simp) rfl
    show mergeD (putD (toK A) (.inr (J f.1)) (.str f.2)) (toK B) = _
    rw [put_new hs, e, ← merge_toK B (A ++ [f]) (by rw [← e]; exact nd)]
    unfold toK
    rw [List.map_append]
    rfl
theorem nd_keys {F : FF} (h : GF F) : (keysJ F).Nodup := h.nd
theorem dict_items {F : FF} (h : GF F) : dictO2 [.lst (itemsD (toK F))] = some (.dct (toK F)) := by
  show (none : Option Own).or ((pairsD (itemsD (toK F))).map fun kvs => Own.dct (mergeD [] kvs)) = _
  rw [pairs_items]
  show some (Own.dct (mergeD (toK []) (toK F))) = _
  rw [merge_toK F [] (nd_keys h), List.nil_append]
theorem dict_dct (kvs : List (Key × D)) : dictO2 [.dct kvs] = some (.dct kvs) := rfl
/-! ### trees -/
structure Tr (F FA : FF) (B : List (Key × D)) : Prop where
  gf : GF F
  ga : GF FA
  sm : SameM FA F
  keys : keysJ FA = srt (keysJ F)
theorem val_of : ∀ {kvs : List (Key × D)} {ks : List Str}, keysS kvs = some ks → ks.Nodup → ∀ kv ∈ kvs, ∃ s, kv.1 = .inr s ∧ valD kvs (.inr s) = some kv.2
  | [], ks, h, _, kv, hk => nomatch hk
  | (.inl _, _) :: r, ks, h, _, _, _ => by cases h
  | (.inr t, d) :: r, ks, h, nd, kv, hk => by
    unfold keysS at h
    cases z : keysS r with
    | none => rw [z] at h; cases h
    | some l =>
      rw [z] at h; cases h
      obtain ⟨n1, n2⟩ := List.nodup_cons.mp nd
      rcases List.mem_cons.mp hk with rfl | hk
      · exact ⟨t, rfl, by simp [valD]⟩
      · obtain ⟨s, e1, e2⟩ := val_of z n2 kv hk
        have hs : s ∈ l := (keysS_val z s).mpr (by rw [e2]; rfl)
        have : ¬ t = s := fun e => n1 (e ▸ hs)
        exact ⟨s, e1, by rw [← e2]; simp [valD, this]⟩
theorem noD_strs : ∀ xs : List Str, noDctL (xs.map D.str) = true
  | [] => rfl
  | x :: xs => by
    show (noDct (.str x) && noDctL (xs.map D.str)) = true
    rw [noD_strs xs]
    rfl
theorem new_toK (F : FF) : newDc (.dct (toK F)) = true := by
  show ((toK F).all fun kv => noDct kv.2) = true
  unfold toK
  rw [List.all_map]
  simp [noDct]
theorem tr_of {F : FF} (h : GF F) (R : Sr) : ∃ (FA : FF) (B : List (Key × D)), mf_Tree_init [.dct (toK F)] R = some ([.dct (toK FA), .dct B], R) ∧ Tr F FA B ∧ newDc (.dct B) = true := by
  obtain ⟨FA, B, kb, e, sm, ga, ks, k1, k2, vb⟩ := tree_ok h R
  refine ⟨FA, B, e, ⟨h, ga, sm, ks⟩, List.all_eq_true.mpr fun kv hkv => ?_⟩
  obtain ⟨s, e1, e2⟩ := val_of k1 k2 kv hkv
  rw [vb] at e2
  split at e2
  · cases e2
  · have e2 : FDv F s = kv.2 := Option.some.inj e2
    rw [← e2]
    exact noD_strs _
theorem init_non (R : Sr) : mf_Tree_init [.non] R = some ([.dct [], .dct []], R) := by kernel_rfl
theorem gf_nil : GF [] := ⟨(fun _ h => nomatch h), (fun _ h => nomatch h), Nat.zero_le _, .nil⟩
theorem tr_nil : Tr [] [] [] := ⟨gf_nil, gf_nil, fun _ => Iff.rfl, rfl⟩
end K2
set_option Elab.async false
set_option linter.all false
set_option maxRecDepth 100000
set_option maxHeartbeats 1000000
namespace K2
open PySem PySem.Spec PyProof.Rows L2 Nb RZ
theorem keysD_toK (F : FF) : keysD (toK F) = (keysJ F).map D.str := by rw [keys_toK]; unfold keysJ; rw [List.map_map]; rfl
theorem in_keys {F : FF} (h : GF F) {s : Str} (hs : s ∈ keysJ F) : ∃ f ∈ F, J f.1 = s ∧ valD (toK F) (.inr s) = some (.str f.2) := by
  obtain ⟨f, hf, rfl⟩ := List.mem_map.mp hs
  exact ⟨f, hf, rfl, h.val hf⟩
theorem keys_len {F : FF} (h : GF F) : (keysJ F).length ≤ 12 := by unfold keysJ; rw [List.length_map]; exact h.few
theorem yes_all {τ : Tau} {R : Sr} : tYesM τ R = some (true, R) := rfl
theorem filter_yes (ss : List Str) : (ss.filter fun _ => true) = ss := by simp
theorem comp_all {i : Nat} {me : ME} {τ : Tau} {R : Sr} {f : Str → D} (ss : List Str) (he : ∀ s ∈ ss, me (τ.set i (some (.str s))) R = some (f s, R)) : compS (gN i) tYesM me [i] τ (ss.map D.str) R = some (ss.map f, R) := by
  have := comp_filter (i := i) (mt := tYesM) (me := me) (τ := τ) (R := R) (p := fun _ => true) (f := f) ss (fun _ _ => rfl) fun s hs _ => he s hs
  rw [filter_yes] at this
  exact this
/-- the law's own sorted dict -/
theorem sorted_ok {F FA : FF} {B : List (Key × D)} (t : Tr F FA B) (R : Sr) : mf_law_sorted [.dct (toK F)] R = some (.dct (toK FA), R) := by
  have kl := keys_len t.gf
  have e1 : ((srt (keysJ F)).map fun s => D.tup [.str s, valF F s]) = itemsD (toK FA) := by
    rw [items_toK, ← t.keys]
    unfold keysJ
    rw [List.map_map]
    apply List.map_congr_left
    intro f hf
    have hf' := (t.sm f).mp hf
    have : valF F (J f.1) = .str f.2 := by unfold valF; rw [t.gf.val hf']; rfl
    show D.tup [.str (J f.1), valF F (J f.1)] = _
    rw [this]
  have c : mComp [1] (mSeqI (mFz (mFunO sortO (mCons (mV 0) (fun _ => pure []))))) (gN 1) tYesM (mTup (mCons (mV 1) (mCons (mOp subD (mV 0) (mV 1)) (fun _ => pure [])))) (viewA (startD 2 [.dct (toK F)])) R = some (.lst (itemsD (toK FA)), R) := by
    refine (comp_ok (ds := (srt (keysJ F)).map D.str) (xs := (srt (keysJ F)).map fun s => D.tup [.str s, valF F s]) (R1 := R) (R2 := R) (sorted_J t.gf rfl) (comp_all _ fun s hs => ?_) (by rw [List.length_map, srt_len]; omega)).trans (by rw [e1])
    have ar : (mCons (mV 1) (mCons (mOp subD (mV 0) (mV 1)) (fun _ => pure []))) ((wipeD (viewA (startD 2 [.dct (toK F)])) [1]).set 1 (some (.str s))) R = some ([.str s, valF F s], R) := by
      refine cons_ok (R1 := R) rfl (cons_ok (R1 := R) (op_ok (x := .dct (toK F)) (y := .str s) (R1 := R) (R2 := R) rfl rfl ?_) rfl)
      obtain ⟨f, hf, e, hv⟩ := in_keys t.gf (srt_mem.mp hs)
      show valD (toK F) (.inr s) = some (valF F s)
      unfold valF
      rw [hv]
      rfl
    exact (bind_ok ar).trans rfl
  exact defO_ro (retO_of (funO_okD (cons_ok (fz_ok c rfl) rfl) (dict_items t.ga)))
theorem same_items (F : FF) (h : GF F) (R : Sr) : mr_law_same 3 [.lst (itemsD (toK F)), .lst (itemsD (toK F))] R = some (.bl true, R) := by
  have hf := h.few
  refine same_rows _ (by unfold itemsD toK; rw [List.length_map, List.length_map]; omega) (fun d hd => ?_) R
  rw [items_toK] at hd
  obtain ⟨f, _, rfl⟩ := List.mem_map.mp hd
  exact ⟨[J f.1, f.2], rfl, by simp⟩
/-! first names -/
def hdsF (F : FF) : List Str := srt (dedupS ((keysJ F).map hdS))
theorem sortS_ok (xs : List Str) (h : xs.length ≤ 1000) : sortSO [.lst (xs.map D.str)] = some (.lst ((srt (dedupS xs)).map D.str)) := by
  show (strsD (xs.map D.str)).bind _ = _
  rw [strsD_map, Option.bind_some, if_pos h]
theorem map_hd (ss : List Str) : (ss.map fun s => D.str (hdS s)) = (ss.map hdS).map D.str := by rw [List.map_map]; rfl
theorem firsts_ok {F : FF} (h : GF F) (B : List (Key × D)) (R : Sr) : mf_Tree_firsts [tre F B] R = some (.lst ((hdsF F).map D.str), R) := by
  have kl := keys_len h
  have it : mLkI keysD (mFun1 (fldD "Tree" 0) (mV 0)) (viewA (startD 2 [tre F B])) R = some ((keysJ F).map D.str, R) := by
    rw [← keysD_toK]; rfl
  have c : mComp [1] (mLkI keysD (mFun1 (fldD "Tree" 0) (mV 0))) (gN 1) tYesM (mCall 1 [] mf_first_of (mCons (mV 1) (fun _ => pure []))) (viewA (startD 2 [tre F B])) R = some (.lst (((keysJ F).map hdS).map D.str), R) := by
    refine (comp_ok (xs := (keysJ F).map fun s => D.str (hdS s)) (R1 := R) (R2 := R) it (comp_all _ fun s hs => ?_) (by rw [List.length_map]; omega)).trans (by rw [map_hd])
    obtain ⟨f, hf, rfl, _⟩ := in_keys h hs
    exact call_ok' (xs := [.str (J f.1)]) (R1 := R) rfl rfl (first_ok (h.gp f hf) R)
  exact defO_ro (retO_of (funO_okD (cons_ok (fz_ok c rfl) rfl) (sortS_ok _ (by rw [List.length_map]; omega))))
theorem hds_same {F FA : FF} (s : SameM FA F) : hdsF FA = hdsF F := srt_dd fun x => by
  unfold keysJ
  rw [List.map_map, List.map_map, List.mem_map, List.mem_map]
  constructor
  · rintro ⟨f, hf, e⟩; exact ⟨f, (s f).mp hf, e⟩
  · rintro ⟨f, hf, e⟩; exact ⟨f, (s f).mpr hf, e⟩
theorem split_hd {l : List Str} (h : GP l) : ∃ ds, splitD (.str (J l)) (.str "/") = some (.lst (.str (hdS (J l)) :: ds)) := by
  rw [split_okD h, hd_J h]
  cases l with
  | nil => exact absurd rfl h.ne
  | cons x r => exact ⟨r.map D.str, rfl⟩
def tFirsts : ME := mFz (mFunO sortSO (mCons (mFz (mComp [4] (mLkI keysD (mV 1)) (gN 4) tYesM (mOp subD (mOp splitD (mV 4) (mC (.str "/"))) (mC (.int 0))))) fun _ => pure []))
theorem firsts_law {F : FF} (h : GF F) (τ : Tau) (hl : τ.length = 5) (h1 : τ[1]? = some (some (.dct (toK F)))) (R : Sr) : tFirsts τ R = some (.lst ((hdsF F).map D.str), R) := by
  have kl := keys_len h
  have it : mLkI keysD (mV 1) τ R = some ((keysJ F).map D.str, R) := by
    rw [← keysD_toK]
    exact (bind_ok (mV_ok h1)).trans rfl
  have c : mComp [4] (mLkI keysD (mV 1)) (gN 4) tYesM (mOp subD (mOp splitD (mV 4) (mC (.str "/"))) (mC (.int 0))) τ R = some (.lst (((keysJ F).map hdS).map D.str), R) := by
    refine (comp_ok (xs := (keysJ F).map fun s => D.str (hdS s)) (R1 := R) (R2 := R) it (comp_all _ fun s hs => ?_) (by rw [List.length_map]; omega)).trans (by rw [map_hd])
    obtain ⟨f, hf, rfl, _⟩ := in_keys h hs
    obtain ⟨ds, e⟩ := split_hd (h.gp f hf)
    have lw : 4 < (wipeD τ [4]).length := by rw [wipeD_length, hl]; decide
    exact op_ok (x := .lst (.str (hdS (J f.1)) :: ds)) (y := .int 0) (R1 := R) (R2 := R) (op_ok (x := .str (J f.1)) (y := .str "/") (R1 := R) (R2 := R) (mV_ok (List.getElem?_set_self lw)) rfl e) rfl (sub_lst0 _ _)
  exact fz_ok (funO_okD (cons_ok (fz_ok c rfl) rfl) (sortS_ok _ (by rw [List.length_map]; omega))) rfl
theorem len_ok {F : FF} (h : GF F) (B : List (Key × D)) {τ : Tau} {i : Nat} {R : Sr} (hi : τ[i]? = some (some (tre F B))) : mOwnLen "Tree" mf_Tree___len__ (mV i) τ R = some (.int F.length, R) := by
  have hf := h.few
  refine (bind_ok (mV_ok hi)).trans ?_
  rw [if_pos (ins_tre F B)]
  have e : mf_Tree___len__ [tre F B] R = some (.int F.length, R) := by
    refine def_rt (ret_of (fun_okD (xs := [.dct (toK F)]) (R1 := R) (cons_ok rfl rfl) ?_))
    show some (D.int ((toK F).length : Nat)) = _
    rw [toK_len]
  refine (bind_ok e).trans ?_
  have e2 : isN63 (.int F.length) = some (.int F.length) := by
    unfold isN63
    dsimp only
    rw [if_pos ⟨by omega, by omega⟩]
  rw [opt_ap, e2]
  rfl
end K2
set_option Elab.async false
set_option linter.all false
set_option maxRecDepth 100000
set_option maxHeartbeats 1000000
namespace K2
open PySem PySem.Spec PyProof.Rows L2 Nb RZ
/-! ### what is told of a tree -/
def i1 : MS := mNew 2 (evP (mMethO "Tree" 1 [] mf_Tree_files (mV 0) (fun _ => pure [])))
def i2 : MS := mIfS (evT (mOrT (mNotT (mTru (mFun isiD (mCons (mV 2) (mCons (mC (.ty "dict")) (fun _ => pure [])))))) (mNotT (mTru (mCall 2 [] (mr_law_same 3) (mCons (mFun1 itF (mV 2)) (mCons (mFun1 itF (mFz (mCallO 1 [] mf_law_sorted (mCons (mV 1) (fun _ => pure []))))) (fun _ => pure [])))))))) (mRet (evA (mC (.bl false)))) mNil
def i3 : MS := mSet (gN 3) (evA tFirsts)
def i4 : MS := mIfS (evT (mNotT (mTru (mCall 2 [] (mr_law_same 3) (mCons (mLst (mCons (mOwnLen "Tree" mf_Tree___len__ (mV 0)) (mCons (mFz (mMethO "Tree" 1 [] mf_Tree_firsts (mV 0) (fun _ => pure []))) (fun _ => pure [])))) (mCons (mLst (mCons (mFun lenD (mCons (mV 1) (fun _ => pure []))) (mCons (mV 3) (fun _ => pure [])))) (fun _ => pure []))))))) (mRet (evA (mC (.bl false)))) mNil
def i6 : MS := mAppF (evP (mMethO "Tree" 1 [] mf_Tree_firsts (mV 0) (fun _ => pure []))) (evA (mC (.str "more")))
def i7 : MS := mRet (evA (asE (mCmp eqD3 (mFz (mMethO "Tree" 1 [] mf_Tree_files (mV 0) (fun _ => pure []))) (mV 1))))
theorem mb_told_eq : mb_law_is_told = mSeq i1 (mSeq i2 (mSeq i3 (mSeq i4 (mSeq (mClr 2) (mSeq i6 i7))))) := rfl
theorem same_told (n : Int) (xs : List Str) (h : xs.length ≤ 1000) (R : Sr) : mr_law_same 3 [.lst [.int n, .lst (xs.map D.str)], .lst [.int n, .lst (xs.map D.str)]] R = some (.bl true, R) := by
  show mf_law_same (mf_law_same (mf_law_same mNone)) _ R = _
  refine same_lst _ _ (by simp) (fun d hd => ?_) R
  rcases List.mem_cons.mp hd with rfl | hd
  · exact same_int _ n
  · rw [List.mem_singleton.mp hd]
    exact same_lst _ _ (by rw [List.length_map]; exact h) fun d hd => by
      obtain ⟨s, _, rfl⟩ := List.mem_map.mp hd
      exact same_str _ s
theorem told_ok {F FA : FF} {B : List (Key × D)} (t : Tr F FA B) (R : Sr) : mf_law_is_told [tre FA B, .dct (toK F)] R = some (.bl true, R) := by
  have fl := t.gf.few
  have lenA : FA.length = F.length := (t.gf.of_same t.sm t.ga.nd).2
  have hl : (hdsF F).length ≤ 1000 := by
    have := dedup_len ((keysJ F).map hdS)
    rw [List.length_map] at this
    have kl := keys_len t.gf
    unfold hdsF
    rw [srt_len]
    omega
  have s1 : i1 [V_ (tre FA B), V_ (.dct (toK F)), none, none, none] R = .nx [V_ (tre FA B), V_ (.dct (toK F)), some (.own (.dct (toK FA))), none, none] R :=
    (new_of (ob := .dct (toK FA)) (R' := R) (methO_ok (x := tre FA B) (xs := []) (R1 := R) (R2 := R) rfl rfl (ins_tre _ _) rfl (files_ok FA B R))).trans rfl
  have s2 : i2 [V_ (tre FA B), V_ (.dct (toK F)), some (.own (.dct (toK FA))), none, none] R = .nx [V_ (tre FA B), V_ (.dct (toK F)), some (.own (.dct (toK FA))), none, none] R := by
    refine (if_ff (R' := R) ?_).trans rfl
    refine or_ff (R1 := R) (not_ok' (b := true) (tru_ok' (x := .bl true) (fun_okD (xs := [.dct (toK FA), .ty "dict"]) (R1 := R) (cons_ok rfl (cons_ok rfl rfl)) (isi_dct _)) rfl)) ?_
    refine not_ok' (b := true) (tru_ok' (x := .bl true) ?_ rfl)
    have ar : (mCons (mFun1 itF (mV 2)) (mCons (mFun1 itF (mFz (mCallO 1 [] mf_law_sorted (mCons (mV 1) (fun _ => pure []))))) (fun _ => pure []))) (viewB [V_ (tre FA B), V_ (.dct (toK F)), some (.own (.dct (toK FA))), none, none]) R = some ([.lst (itemsD (toK FA)), .lst (itemsD (toK FA))], R) :=
      cons_ok (R1 := R) (fun1_ok (x := .dct (toK FA)) rfl rfl) (cons_ok (R1 := R) (fun1_ok (x := .dct (toK FA)) (fz_ok (ob := .dct (toK FA)) (callO_ok (xs := [.dct (toK F)]) (R1 := R) (cons_ok rfl rfl) rfl (sorted_ok t R)) rfl) rfl) rfl)
    exact call_ok' ar rfl (same_items FA t.ga R)
  have s3 : i3 [V_ (tre FA B), V_ (.dct (toK F)), some (.own (.dct (toK FA))), none, none] R = .nx [V_ (tre FA B), V_ (.dct (toK F)), some (.own (.dct (toK FA))), V_ (.lst ((hdsF F).map D.str)), none] R :=
    (set_of (us := [(3, .lst ((hdsF F).map D.str))]) (R' := R) (firsts_law t.gf (viewA [V_ (tre FA B), V_ (.dct (toK F)), some (.own (.dct (toK FA))), none, none]) rfl rfl R) rfl).trans rfl
  have fi : ∀ τ : Tau, τ[0]? = some (some (tre FA B)) → mMethO "Tree" 1 [] mf_Tree_firsts (mV 0) (fun _ => pure []) τ R = some (.lst ((hdsF F).map D.str), R) := fun τ h0 =>
    methO_ok (x := tre FA B) (xs := []) (R1 := R) (R2 := R) (mV_ok h0) rfl (ins_tre _ _) rfl (by rw [← hds_same t.sm]; exact firsts_ok t.ga B R)
  have s4 : i4 [V_ (tre FA B), V_ (.dct (toK F)), some (.own (.dct (toK FA))), V_ (.lst ((hdsF F).map D.str)), none] R = .nx [V_ (tre FA B), V_ (.dct (toK F)), some (.own (.dct (toK FA))), V_ (.lst ((hdsF F).map D.str)), none] R := by
    refine (if_ff (R' := R) ?_).trans rfl
    refine not_ok' (b := true) (tru_ok' (x := .bl true) ?_ rfl)
    have a1 : (mLst (mCons (mOwnLen "Tree" mf_Tree___len__ (mV 0)) (mCons (mFz (mMethO "Tree" 1 [] mf_Tree_firsts (mV 0) (fun _ => pure []))) (fun _ => pure [])))) (viewB [V_ (tre FA B), V_ (.dct (toK F)), some (.own (.dct (toK FA))), V_ (.lst ((hdsF F).map D.str)), none]) R = some (.lst [.int FA.length, .lst ((hdsF F).map D.str)], R) := by
      have ar : (mCons (mOwnLen "Tree" mf_Tree___len__ (mV 0)) (mCons (mFz (mMethO "Tree" 1 [] mf_Tree_firsts (mV 0) (fun _ => pure []))) (fun _ => pure []))) (viewB [V_ (tre FA B), V_ (.dct (toK F)), some (.own (.dct (toK FA))), V_ (.lst ((hdsF F).map D.str)), none]) R = some ([.int FA.length, .lst ((hdsF F).map D.str)], R) :=
        cons_ok (R1 := R) (len_ok t.ga B rfl) (cons_ok (R1 := R) (fz_ok (fi _ rfl) rfl) rfl)
      exact (bind_ok ar).trans rfl
    have a2 : (mLst (mCons (mFun lenD (mCons (mV 1) (fun _ => pure []))) (mCons (mV 3) (fun _ => pure [])))) (viewB [V_ (tre FA B), V_ (.dct (toK F)), some (.own (.dct (toK FA))), V_ (.lst ((hdsF F).map D.str)), none]) R = some (.lst [.int FA.length, .lst ((hdsF F).map D.str)], R) := by
      have e : lenD [.dct (toK F)] = some (.int FA.length) := by
        show some (D.int ((toK F).length : Nat)) = _
        rw [toK_len, lenA]
      have ar : (mCons (mFun lenD (mCons (mV 1) (fun _ => pure []))) (mCons (mV 3) (fun _ => pure []))) (viewB [V_ (tre FA B), V_ (.dct (toK F)), some (.own (.dct (toK FA))), V_ (.lst ((hdsF F).map D.str)), none]) R = some ([.int FA.length, .lst ((hdsF F).map D.str)], R) :=
        cons_ok (R1 := R) (fun_okD (xs := [.dct (toK F)]) (R1 := R) (cons_ok rfl rfl) e) (cons_ok (R1 := R) rfl rfl)
      exact (bind_ok ar).trans rfl
    exact call_ok' (cons_ok (R1 := R) a1 (cons_ok (R1 := R) a2 rfl)) rfl (same_told _ _ hl R)
  have s6 : i6 [V_ (tre FA B), V_ (.dct (toK F)), some (.own (.dct [])), V_ (.lst ((hdsF F).map D.str)), none] R = .nx [V_ (tre FA B), V_ (.dct (toK F)), some (.own (.dct [])), V_ (.lst ((hdsF F).map D.str)), none] R := by
    unfold i6 mAppF
    rw [show evP (mMethO "Tree" 1 [] mf_Tree_firsts (mV 0) (fun _ => pure [])) [V_ (tre FA B), V_ (.dct (toK F)), some (.own (.dct [])), V_ (.lst ((hdsF F).map D.str)), none] R = some (.lst ((hdsF F).map D.str), R) from fi _ rfl]
    dsimp only
    rw [show evA (mC (.str "more")) [V_ (tre FA B), V_ (.dct (toK F)), some (.own (.dct [])), V_ (.lst ((hdsF F).map D.str)), none] R = some (.str "more", R) from rfl]
    dsimp only
    rw [if_pos (by rw [List.length_map]; omega)]
  have s7 : i7 [V_ (tre FA B), V_ (.dct (toK F)), some (.own (.dct [])), V_ (.lst ((hdsF F).map D.str)), none] R = .rt (.bl true) R :=
    ret_of (asE_ok (cmp_ok (x := .dct (toK FA)) (y := .dct (toK F)) (R1 := R) (R2 := R) (fz_ok (ob := .dct (toK FA)) (methO_ok (x := tre FA B) (xs := []) (R1 := R) (R2 := R) rfl rfl (ins_tre _ _) rfl (files_ok FA B R)) rfl) rfl (eq_same t.ga t.gf t.sm)))
  refine def_rt ?_
  show mb_law_is_told [V_ (tre FA B), V_ (.dct (toK F)), none, none, none] R = _
  rw [mb_told_eq]
  exact (seq_nx s1).trans ((seq_nx s2).trans ((seq_nx s3).trans ((seq_nx s4).trans ((seq_nx (τ' := [V_ (tre FA B), V_ (.dct (toK F)), some (.own (.dct [])), V_ (.lst ((hdsF F).map D.str)), none]) (R' := R) rfl).trans ((seq_nx s6).trans s7)))))
end K2
set_option Elab.async false
set_option linter.all false
set_option maxRecDepth 100000
set_option maxHeartbeats 1000000
namespace K2
open PySem PySem.Spec PyProof.Rows L2 Nb RZ
/-! ### parts -/
def partF (p : List Str) (F : FF) : FF := (F.filter fun f => pre p f.1).map fun f => (f.1.drop p.length, f.2)
theorem part_mem {p : List Str} {F : FF} {g : List Str × Str} : g ∈ partF p F ↔ g.1 ≠ [] ∧ (p ++ g.1, g.2) ∈ F := by
  unfold partF
  rw [List.mem_map]
  constructor
  · rintro ⟨f, hf, rfl⟩
    obtain ⟨h1, h2⟩ := List.mem_filter.mp hf
    obtain ⟨c, hc, e⟩ := pre_iff.mp h2
    have ec : f.1.drop p.length = c := by rw [e, List.drop_left]
    refine ⟨by rw [ec]; exact hc, ?_⟩
    show (p ++ f.1.drop p.length, f.2) ∈ F
    rw [ec, ← e]
    exact h1
  · rintro ⟨h1, h2⟩
    exact ⟨_, List.mem_filter.mpr ⟨h2, pre_iff.mpr ⟨g.1, h1, rfl⟩⟩, by
      show ((p ++ g.1).drop p.length, g.2) = g
      rw [List.drop_left]⟩
theorem pre_app {p a b : List Str} (h : pre a b = true) : pre (p ++ a) (p ++ b) = true := by
  obtain ⟨c, hc, rfl⟩ := pre_iff.mp h
  exact pre_iff.mpr ⟨c, hc, by rw [List.append_assoc]⟩
theorem gf_part {p : List Str} {F : FF} (h : GF F) : GF (partF p F) := by
  refine ⟨fun g hg => ?_, fun g hg => ?_, ?_, ?_⟩
  · obtain ⟨h1, h2⟩ := part_mem.mp hg
    have gp := h.gp _ h2
    have l4 := gp.2.1
    rw [List.length_append] at l4
    exact ⟨List.length_pos_iff.mpr h1, by omega, fun x hx => gp.2.2 x (List.mem_append_right _ hx)⟩
  · obtain ⟨h1, h2⟩ := part_mem.mp hg
    have := h.l3 _ h2
    rw [List.length_append] at this
    omega
  · unfold partF
    rw [List.length_map]
    exact Nat.le_trans (List.length_filter_le _ _) h.few
  · unfold partF
    refine List.pairwise_map.mpr ?_
    have pw := List.Pairwise.filter (fun f : List Str × Str => pre p f.1) h.apart
    refine (List.Pairwise.and_mem.mp pw).imp fun {a b} hab => ?_
    obtain ⟨ha, hb, ap⟩ := hab
    obtain ⟨c, hc, ea⟩ := pre_iff.mp (List.mem_filter.mp ha).2
    obtain ⟨d, hd, eb⟩ := pre_iff.mp (List.mem_filter.mp hb).2
    have da : a.1.drop p.length = c := by rw [ea, List.drop_left]
    have db : b.1.drop p.length = d := by rw [eb, List.drop_left]
    obtain ⟨ne, p1, p2⟩ := ap
    refine ⟨fun e => ?_, ?_, ?_⟩
    · rw [da, db] at e
      have e : c = d := e
      exact ne (by rw [ea, eb, e])
    · show pre (a.1.drop p.length) (b.1.drop p.length) = false
      rw [da, db]
      cases z : pre c d with
      | false => rfl
      | true =>
        have := pre_app (p := p) z
        rw [← ea, ← eb, p1] at this; cases this
    · show pre (b.1.drop p.length) (a.1.drop p.length) = false
      rw [da, db]
      cases z : pre d c with
      | false => rfl
      | true =>
        have := pre_app (p := p) z
        rw [← ea, ← eb, p2] at this; cases this
theorem part_same {p : List Str} {F G : FF} (s : SameM F G) : SameM (partF p F) (partF p G) := fun f => by rw [part_mem, part_mem, s]
/-- the rest of a path behind a folder -/
theorem rest_me {i j : Nat} {l p : List Str} (hl : GP l) (hp : GP p) (h : pre p l = true) {τ : Tau} {R : Sr} (hi : τ[i]? = some (some (.str (J l)))) (hj : τ[j]? = some (some (.str (J p)))) :
    mSl (mV i) (mPart (mOp addD (mFun lenD (mCons (mV j) (fun _ => pure []))) (mC (.int 1)))) mNo τ R = some (.str (J (l.drop p.length)), R) := by
  obtain ⟨c, hc, e⟩ := pre_iff.mp h
  have t1 : (J p).length ≤ sizeLine := by have := hp.len; rw [sizeLine_eq]; omega
  have t2 : (J l).length ≤ sizeLine := by have := hl.len; rw [sizeLine_eq]; omega
  refine (bind_ok (mV_ok hi)).trans ?_
  refine (bind_ok (a := some (((J p).length : Int) + 1)) (s1 := R) ?_).trans ?_
  · refine (bind_ok (a := .int (((J p).length : Int) + 1)) (s1 := R) (op_ok (x := .int (J p).length) (R1 := R) (fun_okD (cons_ok (mV_ok hj) rfl) ?_) rfl rfl)).trans rfl
    simp [lenD, orL, lenV, t1]
  refine (bind_ok (a := none) (s1 := R) rfl).trans ?_
  show (slD (.str (J l)) (some (((J p).length : Int) + 1)) none).map (fun a => (a, R)) = _
  unfold slD
  dsimp only
  rw [if_pos t2, e, cut_rest hp.ne hc, List.drop_left]
  rfl
/-- what of the keys lies beneath p, as pairs -/
theorem part_pairs {p : List Str} (hp : GP p) {F : FF} (h : GF F) {g : Str → Str} (hg : ∀ f ∈ F, pre p f.1 = true → g (J f.1) = J (f.1.drop p.length)) :
    ((keysJ F).filter fun s => ben s (J p)).map (fun s => ((Sum.inr (g s) : Key), valF F s)) = toK (partF p F) := by
  unfold keysJ partF toK
  rw [List.filter_map, List.map_map, List.map_map]
  have e : (F.filter ((fun s => ben s (J p)) ∘ fun f => J f.1)) = F.filter fun f => pre p f.1 := List.filter_congr fun f hf => ben_J (h.gp f hf) hp
  rw [e]
  apply List.map_congr_left
  intro f hf
  obtain ⟨h1, h2⟩ := List.mem_filter.mp hf
  show ((Sum.inr (g (J f.1)) : Key), valF F (J f.1)) = (Sum.inr (J (f.1.drop p.length)), D.str f.2)
  have : valF F (J f.1) = .str f.2 := by unfold valF; rw [h.val h1]; rfl
  rw [hg f h1 h2, this]
def gS (p : List Str) (s : Str) : Str := cutS s (some (((J p).length : Int) + 1)) none
theorem gS_ok {p l : List Str} (hp : GP p) (h : pre p l = true) : gS p (J l) = J (l.drop p.length) := by
  obtain ⟨c, hc, e⟩ := pre_iff.mp h
  unfold gS
  rw [e, cut_rest hp.ne hc, List.drop_left]
theorem law_part_ok {F : FF} (h : GF F) {p : List Str} (hp : GP p) (R : Sr) : mf_law_part [.dct (toK F), .str (J p)] R = some (.dct (toK (partF p F)), R) := by
  have kl := keys_len h
  have fl := List.length_filter_le (fun s => ben s (J p)) (keysJ F)
  have it : mLkI keysD (mV 0) (viewA (startD 3 [.dct (toK F), .str (J p)])) R = some ((keysJ F).map D.str, R) := by
    rw [← keysD_toK]; rfl
  have e1 : (((keysJ F).filter fun s => ben s (J p)).map fun s => D.tup [.str (gS p s), valF F s]) = itemsD (toK (partF p F)) := by
    rw [← part_pairs hp h (g := gS p) fun f hf hpf => gS_ok hp hpf]
    unfold itemsD
    rw [List.map_map]
    rfl
  have c : mComp [2] (mLkI keysD (mV 0)) (gN 2) (mTru (mCall 2 [] mf_law_is_beneath (mCons (mV 2) (mCons (mV 1) (fun _ => pure []))))) (mTup (mCons (mSl (mV 2) (mPart (mOp addD (mFun lenD (mCons (mV 1) (fun _ => pure []))) (mC (.int 1)))) mNo) (mCons (mOp subD (mV 0) (mV 2)) (fun _ => pure [])))) (viewA (startD 3 [.dct (toK F), .str (J p)])) R = some (.lst (itemsD (toK (partF p F))), R) := by
    refine (comp_ok (xs := ((keysJ F).filter fun s => ben s (J p)).map fun s => D.tup [.str (gS p s), valF F s]) (R1 := R) (R2 := R) it (comp_filter (p := fun s => ben s (J p)) _ (fun s hs => ?_) fun s hs hb => ?_) (by rw [List.length_map]; omega)).trans (by rw [e1])
    · obtain ⟨f, hf, rfl, _⟩ := in_keys h hs
      exact tru_ok' (call_ok' (xs := [.str (J f.1), .str (J p)]) (R1 := R) rfl rfl (ben_ok _ _ R (small_J (h.gp f hf)) (small_J hp))) rfl
    · obtain ⟨f, hf, rfl, hv⟩ := in_keys h hs
      have hb : ben (J f.1) (J p) = true := hb
      rw [ben_J (h.gp f hf) hp] at hb
      have ar : (mCons (mSl (mV 2) (mPart (mOp addD (mFun lenD (mCons (mV 1) (fun _ => pure []))) (mC (.int 1)))) mNo) (mCons (mOp subD (mV 0) (mV 2)) (fun _ => pure []))) ((wipeD (viewA (startD 3 [.dct (toK F), .str (J p)])) [2]).set 2 (some (.str (J f.1)))) R = some ([.str (gS p (J f.1)), valF F (J f.1)], R) := by
        refine cons_ok (R1 := R) (by rw [gS_ok hp hb]; exact rest_me (h.gp f hf) hp hb rfl rfl) (cons_ok (R1 := R) (op_ok (x := .dct (toK F)) (y := .str (J f.1)) (R1 := R) (R2 := R) rfl rfl ?_) rfl)
        show valD (toK F) (.inr (J f.1)) = some (valF F (J f.1))
        unfold valF
        rw [hv]
        rfl
      exact (bind_ok ar).trans rfl
  exact defO_ro (retO_of (funO_okD (cons_ok (fz_ok c rfl) rfl) (dict_items (gf_part h))))
end K2
set_option Elab.async false
set_option linter.all false
set_option maxRecDepth 100000
set_option maxHeartbeats 1000000
namespace K2
open PySem PySem.Spec PyProof.Rows L2 Nb RZ
/-! ### the program's part -/
theorem dcomp_map2 {i : Nat} {mk mv : ME} {τ : Tau} {R : Sr} {kf : Str → Str} {val : Str → D} : ∀ (ss : List Str) (acc : List (Key × D)), (∀ s ∈ ss, mk (τ.set i (some (.str s))) R = some (.str (kf s), R)) → (∀ s ∈ ss, mv (τ.set i (some (.str s))) R = some (val s, R)) →
    dcompS (gN i) tYesM mk mv [i] τ (ss.map D.str) acc R = some (mergeD acc (ss.map fun s => ((Sum.inr (kf s) : Key), val s)), R)
  | [], acc, _, _ => rfl
  | s :: ss, acc, hk, hv => by
    have ih := dcomp_map2 (kf := kf) (val := val) ss (putD acc (.inr (kf s)) (val s)) (fun t ht => hk t (List.mem_cons_of_mem _ ht)) fun t ht => hv t (List.mem_cons_of_mem _ ht)
    have c1 : (opt (if ([(i, D.str s)] : List (Nat × D)).all (fun p => ([i] : List Nat).contains p.1) then some [(i, D.str s)] else none) : M (List (Nat × D))) R = some ([(i, D.str s)], R) := by
      simp [opt]
    rw [List.map_cons]
    refine (bind_ok (a := [(i, D.str s)]) (s1 := R) rfl).trans ?_
    refine (bind_ok c1).trans ?_
    refine (bind_ok (a := true) (s1 := R) rfl).trans ?_
    refine (bind_ok (a := putD acc (.inr (kf s)) (val s)) (s1 := R) ((bind_ok (hk s List.mem_cons_self)).trans ((bind_ok (hv s List.mem_cons_self)).trans ((bind_ok (a := Sum.inr (kf s)) (s1 := R) rfl).trans rfl)))).trans ?_
    exact ih
def pA : MS := mIfS (evT (mNotT (mTru (mCall 1 [] mf_is_path (mCons (mV 1) (fun _ => pure [])))))) mStuck mNil
def pB : MS := mSet (gN 2) (evA (mFz (mComp [3] (mLkI keysD (mFun1 (fldD "Tree" 0) (mV 0))) (gN 3) (mTru (mCall 2 [] mf_is_beneath (mCons (mV 3) (mCons (mV 1) (fun _ => pure []))))) (mV 3))))
def pD : Tau → M Own := mDcomp [3] (mSeqI (mV 2)) (gN 3) tYesM (mSl (mV 3) (mPart (mOp addD (mFun lenD (mCons (mV 1) (fun _ => pure []))) (mC (.int 1)))) mNo) (mOp subD (mFun1 (fldD "Tree" 0) (mV 0)) (mV 3))
def pC : MS := mRet (evA (mMake "Tree" 1 [] mf_Tree_init (mCons (mFz pD) (fun _ => pure []))))
theorem mb_part_eq : mb_Tree_part = mSeq pA (mSeq pB pC) := rfl
theorem part_ok {F : FF} (h : GF F) (B : List (Key × D)) {p : List Str} (hp : GP p) (R : Sr) : ∃ (PA : FF) (PB : List (Key × D)), mf_Tree_part [tre F B, .str (J p)] R = some (tre PA PB, R) ∧ Tr (partF p F) PA PB := by
  have kl := keys_len h
  have fl := List.length_filter_le (fun s => ben s (J p)) (keysJ F)
  have gp := gf_part (p := p) h
  obtain ⟨PA, PB, e, t, _⟩ := tr_of gp R
  refine ⟨PA, PB, ?_, t⟩
  let bs := (keysJ F).filter fun s => ben s (J p)
  have bl : bs.length ≤ (keysJ F).length := fl
  have hbs : ∀ s ∈ bs, ∃ f ∈ F, J f.1 = s ∧ pre p f.1 = true ∧ valD (toK F) (.inr s) = some (.str f.2) := fun s hs => by
    obtain ⟨h1, h2⟩ := List.mem_filter.mp hs
    obtain ⟨f, hf, rfl, hv⟩ := in_keys h h1
    have h2 : ben (J f.1) (J p) = true := h2
    rw [ben_J (h.gp f hf) hp] at h2
    exact ⟨f, hf, rfl, h2, hv⟩
  have s1 : pA [V_ (tre F B), V_ (.str (J p)), none, none] R = .nx [V_ (tre F B), V_ (.str (J p)), none, none] R :=
    (if_ff (R' := R) (not_ok' (b := true) (tru_ok' (x := .bl true) (call_ok' (xs := [.str (J p)]) (R1 := R) rfl rfl (is_path_ok hp R)) rfl))).trans rfl
  have it : mLkI keysD (mFun1 (fldD "Tree" 0) (mV 0)) (viewA [V_ (tre F B), V_ (.str (J p)), none, none]) R = some ((keysJ F).map D.str, R) := by
    rw [← keysD_toK]; rfl
  have c : mComp [3] (mLkI keysD (mFun1 (fldD "Tree" 0) (mV 0))) (gN 3) (mTru (mCall 2 [] mf_is_beneath (mCons (mV 3) (mCons (mV 1) (fun _ => pure []))))) (mV 3) (viewA [V_ (tre F B), V_ (.str (J p)), none, none]) R = some (.lst (bs.map D.str), R) := by
    refine comp_ok (R1 := R) (R2 := R) it (comp_filter (p := fun s => ben s (J p)) _ (fun s hs => ?_) fun s hs hb => rfl) (by rw [List.length_map]; omega)
    obtain ⟨f, hf, rfl, _⟩ := in_keys h hs
    rw [ben_J (h.gp f hf) hp]
    exact tru_ok' (call_ok' (xs := [.str (J f.1), .str (J p)]) (R1 := R) rfl rfl (beneath_ok (h.gp f hf) hp R)) rfl
  have s2 : pB [V_ (tre F B), V_ (.str (J p)), none, none] R = .nx [V_ (tre F B), V_ (.str (J p)), V_ (.lst (bs.map D.str)), none] R :=
    (set_of (us := [(2, .lst (bs.map D.str))]) (R' := R) (fz_ok c rfl) rfl).trans rfl
  have d : pD (viewA [V_ (tre F B), V_ (.str (J p)), V_ (.lst (bs.map D.str)), none]) R = some (.dct (toK (partF p F)), R) := by
    have e1 : mergeD [] (bs.map fun s => ((Sum.inr (gS p s) : Key), valF F s)) = toK (partF p F) := by
      rw [part_pairs hp h (g := gS p) fun f hf hpf => gS_ok hp hpf]
      show mergeD (toK []) (toK (partF p F)) = _
      exact merge_toK (partF p F) [] (nd_keys gp)
    refine (bind_ok (a := bs.map D.str) (s1 := R) rfl).trans ?_
    refine (bind_ok (dcomp_map2 (kf := gS p) (val := valF F) bs [] (fun s hs => ?_) fun s hs => ?_)).trans ?_
    · obtain ⟨f, hf, rfl, hpf, _⟩ := hbs s hs
      rw [gS_ok hp hpf]
      exact rest_me (h.gp f hf) hp hpf rfl rfl
    · obtain ⟨f, hf, rfl, hpf, hv⟩ := hbs s hs
      refine op_ok (x := .dct (toK F)) (y := .str (J f.1)) (R1 := R) (R2 := R) rfl rfl ?_
      show valD (toK F) (.inr (J f.1)) = some (valF F (J f.1))
      unfold valF
      rw [hv]
      rfl
    · rw [e1, opt_ap, if_pos (by rw [toK_len]; have := gp.few; omega)]
      rfl
  have s3 : pC [V_ (tre F B), V_ (.str (J p)), V_ (.lst (bs.map D.str)), none] R = .rt (tre PA PB) R :=
    ret_of (mk_ok (xs := [.dct (toK (partF p F))]) (R1 := R) (cons_ok (fz_ok d rfl) rfl) rfl e)
  refine def_rt ?_
  show mb_Tree_part [V_ (tre F B), V_ (.str (J p)), none, none] R = _
  rw [mb_part_eq]
  exact (seq_nx s1).trans ((seq_nx s2).trans s3)
/-- told of the part of files -/
theorem srt_pm {xs ys : List Str} (h : xs.Perm ys) : srt xs = srt ys := srt_eq ((srt_perm xs).trans h) (srt_pw xs)
theorem keys_perm {F G : FF} (hF : GF F) (hG : GF G) (s : SameM F G) : (keysJ F).Perm (keysJ G) := (List.perm_ext_iff_of_nodup (nd_keys hF) (nd_keys hG)).mpr fun x => by
  unfold keysJ
  rw [List.mem_map, List.mem_map]
  constructor
  · rintro ⟨f, hf, e⟩; exact ⟨f, (s f).mp hf, e⟩
  · rintro ⟨f, hf, e⟩; exact ⟨f, (s f).mpr hf, e⟩
theorem Tr.of {F G FA : FF} {B : List (Key × D)} (t : Tr F FA B) (hG : GF G) (s : SameM F G) : Tr G FA B := ⟨hG, t.ga, t.sm.trans s, by rw [t.keys]; exact srt_pm (keys_perm t.gf hG s)⟩
theorem part_told {F FA : FF} {B : List (Key × D)} (t : Tr F FA B) {p : List Str} (hp : GP p) (R : Sr) : ∃ (PA : FF) (PB : List (Key × D)), mf_Tree_part [tre FA B, .str (J p)] R = some (tre PA PB, R) ∧ Tr (partF p F) PA PB := by
  obtain ⟨PA, PB, e, u⟩ := part_ok t.ga B hp R
  exact ⟨PA, PB, e, u.of (gf_part t.gf) (part_same t.sm)⟩
end K2
set_option Elab.async false
set_option linter.all false
set_option maxRecDepth 100000
set_option maxHeartbeats 1000000
namespace K2
open PySem PySem.Spec PyProof.Rows L2 Nb RZ
/-! ### in -/
theorem has_iff (F : FF) (s : Str) : (valD (toK F) (.inr s)).isSome = true ↔ s ∈ keysJ F := (keysS_val (keysS_toK F) s).symm
theorem mem_same {F G : FF} (h : SameM F G) (x : Str) : x ∈ keysJ F ↔ x ∈ keysJ G := by
  unfold keysJ
  rw [List.mem_map, List.mem_map]
  constructor
  · rintro ⟨f, hf, e⟩; exact ⟨f, (h f).mp hf, e⟩
  · rintro ⟨f, hf, e⟩; exact ⟨f, (h f).mpr hf, e⟩
theorem has_same {F G : FF} (h : SameM F G) (s : Str) : (valD (toK F) (.inr s)).isSome = (valD (toK G) (.inr s)).isSome := by
  rw [Bool.eq_iff_iff, has_iff, has_iff, mem_same h]
theorem isiC_str (s : Str) : isiC "Tree" [.str s, .ty "str"] = some (.bl true) := by
  unfold isiC
  rw [isi_str]
  rfl
theorem cont_str (F : FF) (B : List (Key × D)) (s : Str) (R : Sr) : mf_Tree___contains__ [tre F B, .str s] R = some (.bl (valD (toK F) (.inr s)).isSome, R) := by
  refine def_rt (ret_of ?_)
  refine (bind_ok (a := .bl true) (s1 := R) (fun_okD (xs := [.str s, .ty "str"]) (R1 := R) (cons_ok rfl (cons_ok rfl rfl)) (isiC_str s))).trans ?_
  refine (bind_ok (a := true) (s1 := R) rfl).trans ?_
  exact asE_ok (cmp_ok (x := .str s) (y := .dct (toK F)) (R1 := R) (R2 := R) rfl rfl (in_dct _ _))
theorem cont_off (F : FF) (B : List (Key × D)) {d : D} (h : isiC "Tree" [d, .ty "str"] = some (.bl false)) (R : Sr) : mf_Tree___contains__ [tre F B, d] R = some (.bl false, R) := by
  refine def_rt (ret_of ?_)
  refine (bind_ok (a := .bl false) (s1 := R) (fun_okD (xs := [d, .ty "str"]) (R1 := R) (cons_ok rfl (cons_ok rfl rfl)) h)).trans ?_
  exact (bind_ok (a := false) (s1 := R) rfl).trans rfl
theorem ownIn_ok {F : FF} {B : List (Key × D)} {ma mb : ME} {τ : Tau} {R R1 R2 : Sr} {d : D} {b : Bool} (h : ma τ R = some (d, R1)) (k : mb τ R1 = some (tre F B, R2)) (e : mf_Tree___contains__ [tre F B, d] R2 = some (.bl b, R2)) : mOwnIn "Tree" mf_Tree___contains__ ma mb τ R = some (.bl b, R2) := by
  refine (bind_ok h).trans ((bind_ok k).trans ?_)
  rw [if_pos (ins_tre F B)]
  exact (bind_ok e).trans rfl
/-! ### the law's look at parts -/
def bP : MS := mIfS (evT (mOrT (mNotT (mTru (mCall 2 [] mf_law_is_told (mCons (mMeth "Tree" 2 [] mf_Tree_part (mV 6) (mCons (mV 7) (fun _ => pure []))) (mCons (mFz (mCallO 2 [] mf_law_part (mCons (mV 3) (mCons (mV 7) (fun _ => pure []))))) (fun _ => pure [])))))) (mNotT (mTru (mCall 2 [] (mr_law_same 3) (mCons (mOwnIn "Tree" mf_Tree___contains__ (mV 7) (mV 6)) (mCons (asE (mCmp inD (mV 7) (mV 3))) (fun _ => pure [])))))))) (mRet (evA (mC (.bl false)))) mNil
theorem path_turn {F FA : FF} {B : List (Key × D)} (t : Tr F FA B) {p : List Str} (hp : GP p) (a0 a1 a2 a4 a5 a8 a9 a10 a11 a12 : Option Sv) (R : Sr) :
    bP [a0, a1, a2, V_ (.dct (toK F)), a4, a5, V_ (tre FA B), V_ (.str (J p)), a8, a9, a10, a11, a12] R = .nx [a0, a1, a2, V_ (.dct (toK F)), a4, a5, V_ (tre FA B), V_ (.str (J p)), a8, a9, a10, a11, a12] R := by
  obtain ⟨PA, PB, e, u⟩ := part_told t hp R
  refine (if_ff (R' := R) ?_).trans rfl
  refine or_ff (R1 := R) (not_ok' (b := true) (tru_ok' (x := .bl true) ?_ rfl)) (not_ok' (b := true) (tru_ok' (x := .bl true) ?_ rfl))
  · have ar : (mCons (mMeth "Tree" 2 [] mf_Tree_part (mV 6) (mCons (mV 7) (fun _ => pure []))) (mCons (mFz (mCallO 2 [] mf_law_part (mCons (mV 3) (mCons (mV 7) (fun _ => pure []))))) (fun _ => pure []))) (viewB [a0, a1, a2, V_ (.dct (toK F)), a4, a5, V_ (tre FA B), V_ (.str (J p)), a8, a9, a10, a11, a12]) R = some ([tre PA PB, .dct (toK (partF p F))], R) :=
      cons_ok (R1 := R) (meth_ok (x := tre FA B) (xs := [.str (J p)]) (R1 := R) (R2 := R) rfl rfl (ins_tre _ _) rfl e) (cons_ok (R1 := R) (fz_ok (ob := .dct (toK (partF p F))) (callO_ok (xs := [.dct (toK F), .str (J p)]) (R1 := R) rfl rfl (law_part_ok t.gf hp R)) rfl) rfl)
    exact call_ok' ar rfl (told_ok u R)
  · have ar : (mCons (mOwnIn "Tree" mf_Tree___contains__ (mV 7) (mV 6)) (mCons (asE (mCmp inD (mV 7) (mV 3))) (fun _ => pure []))) (viewB [a0, a1, a2, V_ (.dct (toK F)), a4, a5, V_ (tre FA B), V_ (.str (J p)), a8, a9, a10, a11, a12]) R = some ([.bl (valD (toK F) (.inr (J p))).isSome, .bl (valD (toK F) (.inr (J p))).isSome], R) :=
      cons_ok (R1 := R) (ownIn_ok (d := .str (J p)) (R1 := R) rfl rfl (by rw [← has_same t.sm]; exact cont_str FA B (J p) R)) (cons_ok (R1 := R) (asE_ok (cmp_ok (x := .str (J p)) (y := .dct (toK F)) (R1 := R) (R2 := R) rfl rfl (in_dct _ _))) rfl)
    refine call_ok' ar rfl ?_
    show mf_law_same (mf_law_same (mf_law_same mNone)) _ R = _
    exact same_bl _ _ R
/-! ### the files of two that fit -/
theorem room_iff {F : FF} (h : GF F) {l : List Str} (hl : GP l) : room (keysJ F) (J l) = true ↔ ∀ f ∈ F, pre f.1 l = false ∧ pre l f.1 = false := by
  unfold room keysJ
  rw [List.any_map]
  simp only [Bool.not_eq_true', List.any_eq_false, Function.comp, Bool.or_eq_true, not_or, Bool.not_eq_true]
  constructor
  · intro q f hf
    have := q f hf
    rw [ben_J hl (h.gp f hf), ben_J (h.gp f hf) hl] at this
    exact this
  · intro q f hf
    rw [ben_J hl (h.gp f hf), ben_J (h.gp f hf) hl]
    exact q f hf
def keepB (F : FF) (s : Str) : Bool := !(valD (toK F) (.inr s)).isSome && room (keysJ F) s
def restF (F M : FF) : FF := M.filter fun f => keepB F (J f.1)
theorem gf_filter {M : FF} (h : GF M) (q : List Str × Str → Bool) : GF (M.filter q) :=
  ⟨fun f hf => h.gp f (List.mem_filter.mp hf).1, fun f hf => h.l3 f (List.mem_filter.mp hf).1, Nat.le_trans (List.length_filter_le _ _) h.few, h.apart.filter _⟩
theorem rest_apart {F M : FF} (hF : GF F) (hM : GF M) {f g : List Str × Str} (hf : f ∈ F) (hg : g ∈ restF F M) : Apart2 f g := by
  obtain ⟨g1, g2⟩ := List.mem_filter.mp hg
  have g2 : keepB F (J g.1) = true := g2
  unfold keepB at g2
  rw [Bool.and_eq_true] at g2
  obtain ⟨g2, g3⟩ := g2
  have r := (room_iff hF (hM.gp g g1)).mp g3 f hf
  refine ⟨fun e => ?_, r.1, r.2⟩
  have : (valD (toK F) (.inr (J g.1))).isSome = true := by rw [← e, hF.val hf]; rfl
  rw [this] at g2
  cases g2
theorem gf_both {F M : FF} (hF : GF F) (hM : GF M) (few : F.length + M.length ≤ 12) : GF (F ++ restF F M) := by
  have hR := gf_filter hM fun f => keepB F (J f.1)
  have fl := List.length_filter_le (fun f : List Str × Str => keepB F (J f.1)) M
  refine ⟨fun f hf => ?_, fun f hf => ?_, ?_, List.pairwise_append.mpr ⟨hF.apart, hR.apart, fun a ha b hb => rest_apart hF hM ha hb⟩⟩
  · exact (List.mem_append.mp hf).elim (hF.gp f) (hR.gp f)
  · exact (List.mem_append.mp hf).elim (hF.l3 f) (hR.l3 f)
  · unfold restF
    rw [List.length_append]
    omega
end K2
set_option Elab.async false
set_option linter.all false
set_option maxRecDepth 100000
set_option maxHeartbeats 1000000
namespace K2
open PySem PySem.Spec PyProof.Rows L2 Nb RZ
/-! ### two trees put together -/
theorem kin_apart {f g : List Str × Str} (h : Apart2 f g) : kin g.1 f.1 = false := by
  obtain ⟨h1, h2, h3⟩ := h
  unfold kin
  rw [decide_eq_false (fun e => h1 e.symm), h2, h3]
  rfl
theorem any_ff (ss : List Str) : anyD [.lst (ss.map fun _ => D.bl false)] = some (.bl false) := by
  show (blsD (ss.map fun _ => D.bl false)).map (fun bs => D.bl (bs.any id)) = _
  have : blsD (ss.map fun _ => D.bl false) = some (ss.map fun _ => false) := by
    induction ss with
    | nil => rfl
    | cons s ss ih => simp [blsD, ih]
  rw [this]
  simp
def oA : MS := mIfS (evT (mNotT (mTru (mFun (isC2 "Tree") (mCons (mV 1) (mCons (mC (.cls "Tree")) (fun _ => pure []))))))) mStuck mNil
def oT : Tau → M Bool := mTru (mFun anyD (mCons (mFz (mComp [3] (mLkI keysD (mFun1 (fldD "Tree" 0) (mV 0))) (gN 3) tYesM (mCall 2 [] mf_is_kin (mCons (mV 2) (mCons (mV 3) (fun _ => pure [])))))) (fun _ => pure [])))
def oI : MS := mIfS (evT oT) mStuck mNil
def oC : MS := mRet (evA (mMake "Tree" 1 [] mf_Tree_init (mCons (mFz (mMerge (mFun1 (fldD "Tree" 0) (mV 0)) (mFun1 (fldD "Tree" 0) (mV 1)))) (fun _ => pure []))))
theorem mb_or_eq : mb_Tree___or__ = mSeq oA (mSeq (mFor (mLkI keysD (mFun1 (fldD "Tree" 0) (mV 1))) (gN 2) oI) oC) := rfl
theorem or_turn {F : FF} (h : GF F) (B : List (Key × D)) {l : List Str} (hl : GP l) (ap : ∀ f ∈ F, kin l f.1 = false) (x : D) (R : Sr) : oI [V_ (tre F B), V_ x, V_ (.str (J l)), none] R = .nx [V_ (tre F B), V_ x, V_ (.str (J l)), none] R := by
  have kl := keys_len h
  have it : mLkI keysD (mFun1 (fldD "Tree" 0) (mV 0)) (viewB [V_ (tre F B), V_ x, V_ (.str (J l)), none]) R = some ((keysJ F).map D.str, R) := by
    rw [← keysD_toK]; rfl
  have c : mComp [3] (mLkI keysD (mFun1 (fldD "Tree" 0) (mV 0))) (gN 3) tYesM (mCall 2 [] mf_is_kin (mCons (mV 2) (mCons (mV 3) (fun _ => pure [])))) (viewB [V_ (tre F B), V_ x, V_ (.str (J l)), none]) R = some (.lst ((keysJ F).map fun _ => D.bl false), R) := by
    refine comp_ok (R1 := R) (R2 := R) it (comp_all (f := fun _ => D.bl false) _ fun s hs => ?_) (by rw [List.length_map]; omega)
    obtain ⟨f, hf, rfl, _⟩ := in_keys h hs
    have := kin_ok hl (h.gp f hf) R
    rw [ap f hf] at this
    exact call_ok' (xs := [.str (J l), .str (J f.1)]) (R1 := R) rfl rfl this
  exact (if_ff (R' := R) (tru_ok' (x := .bl false) (fun_okD (cons_ok (fz_ok c rfl) rfl) (any_ff _)) rfl)).trans rfl
theorem or_loop {F : FF} (h : GF F) (B : List (Key × D)) (x : D) (R : Sr) : ∀ (G : FF), (∀ g ∈ G, GP g.1 ∧ ∀ f ∈ F, kin g.1 f.1 = false) → ∀ a2 : Option Sv, ∃ a2', loopS (gN 2) oI ((keysJ G).map D.str) [V_ (tre F B), V_ x, a2, none] R = .nx [V_ (tre F B), V_ x, a2', none] R
  | [], _, a2 => ⟨a2, rfl⟩
  | g :: G, hG, a2 => by
    obtain ⟨b, e⟩ := or_loop h B x R G (fun g' hg => hG g' (List.mem_cons_of_mem _ hg)) (V_ (.str (J g.1)))
    obtain ⟨g1, g2⟩ := hG g List.mem_cons_self
    exact ⟨b, (loop_nx (us := [(2, .str (J g.1))]) rfl rfl (or_turn h B g1 g2 x R)).trans e⟩
theorem isC2_tre (F : FF) (B : List (Key × D)) : isC2 "Tree" [tre F B, .cls "Tree"] = some (.bl true) := isC _ _
theorem or_ok {F G : FF} (hF : GF F) (hG : GF G) (hb : GF (F ++ G)) (ap : ∀ f ∈ F, ∀ g ∈ G, Apart2 f g) (B C : List (Key × D)) (R : Sr) : ∃ (UA : FF) (UB : List (Key × D)), mf_Tree___or__ [tre F B, tre G C] R = some (tre UA UB, R) ∧ Tr (F ++ G) UA UB := by
  obtain ⟨UA, UB, e, t, _⟩ := tr_of hb R
  refine ⟨UA, UB, ?_, t⟩
  have few := hb.few
  rw [List.length_append] at few
  have s1 : oA [V_ (tre F B), V_ (tre G C), none, none] R = .nx [V_ (tre F B), V_ (tre G C), none, none] R :=
    (if_ff (R' := R) (not_ok' (b := true) (tru_ok' (x := .bl true) (fun_okD (xs := [tre G C, .cls "Tree"]) (R1 := R) (cons_ok rfl (cons_ok rfl rfl)) (isC2_tre G C)) rfl))).trans rfl
  obtain ⟨a2, q⟩ := or_loop hF B (tre G C) R G (fun g hg => ⟨hG.gp g hg, fun f hf => kin_apart (ap f hf g hg)⟩) none
  have it : mLkI keysD (mFun1 (fldD "Tree" 0) (mV 1)) (viewA [V_ (tre F B), V_ (tre G C), none, none]) R = some ((keysJ G).map D.str, R) := by
    rw [← keysD_toK]; rfl
  have m : mMerge (mFun1 (fldD "Tree" 0) (mV 0)) (mFun1 (fldD "Tree" 0) (mV 1)) (viewA [V_ (tre F B), V_ (tre G C), a2, none]) R = some (.dct (toK (F ++ G)), R) := by
    refine (bind_ok (a := .dct (toK F)) (s1 := R) rfl).trans ((bind_ok (a := .dct (toK G)) (s1 := R) rfl).trans ?_)
    dsimp only
    have e1 : mergeD [] (toK F) = toK F := merge_toK F [] (nd_keys hF)
    rw [e1, if_pos (by rw [toK_len, toK_len]; omega), merge_toK G F (nd_keys hb)]
    rfl
  have s3 : oC [V_ (tre F B), V_ (tre G C), a2, none] R = .rt (tre UA UB) R :=
    ret_of (mk_ok (xs := [.dct (toK (F ++ G))]) (R1 := R) (cons_ok (fz_ok m rfl) rfl) rfl e)
  refine def_rt ?_
  show mb_Tree___or__ [V_ (tre F B), V_ (tre G C), none, none] R = _
  rw [mb_or_eq]
  exact (seq_nx s1).trans ((seq_nx ((for_of it).trans q)).trans s3)
/-! ### what the law takes for it -/
theorem and_tt {m n : Tau → M Bool} {τ : Tau} {R R1 R2 : Sr} {b : Bool} (h : m τ R = some (true, R1)) (k : n τ R1 = some (b, R2)) : mAndT m n τ R = some (b, R2) := (bind_ok h).trans k
theorem and_ff {m n : Tau → M Bool} {τ : Tau} {R R1 : Sr} (h : m τ R = some (false, R1)) : mAndT m n τ R = some (false, R1) := (bind_ok h).trans rfl
theorem nin_dct (kvs : List (Key × D)) (s : Str) : ninD (.str s) (.dct kvs) = some (!(valD kvs (.inr s)).isSome) := by
  rw [ninD_eq]
  have e : inDict (.str s) (.dct kvs) = some (valD kvs (.inr s)).isSome := rfl
  show ((inDict (.str s) (.dct kvs)).map (!·)).or _ = _
  rw [e]
  rfl
def rMe : ME := mFz (mFunO dictO2 (mCons (mFz (mComp [7] (mLkI keysD (mV 4)) (gN 7) (mAndT (mCmp ninD (mV 7) (mV 3)) (mTru (mCall 2 [] mf_law_has_room (mCons (mV 3) (mCons (mV 7) (fun _ => pure [])))))) (mTup (mCons (mV 7) (mCons (mOp subD (mV 4) (mV 7)) (fun _ => pure [])))))) (fun _ => pure [])))
theorem rest_ok {F M' : FF} (hF : GF F) (hM : GF M') (a0 a1 a2 a5 a6 a7 a8 a9 a10 a11 a12 : Option Sv) (R : Sr) : rMe (viewA [a0, a1, a2, V_ (.dct (toK F)), V_ (.dct (toK M')), a5, a6, a7, a8, a9, a10, a11, a12]) R = some (.dct (toK (restF F M')), R) := by
  have kl := keys_len hM
  have fl := List.length_filter_le (keepB F) (keysJ M')
  have hf := hF.few
  have it : mLkI keysD (mV 4) (viewA [a0, a1, a2, V_ (.dct (toK F)), V_ (.dct (toK M')), a5, a6, a7, a8, a9, a10, a11, a12]) R = some ((keysJ M').map D.str, R) := by
    rw [← keysD_toK]; rfl
  have e1 : (((keysJ M').filter (keepB F)).map fun s => D.tup [.str s, valF M' s]) = itemsD (toK (restF F M')) := by
    rw [items_toK]
    unfold keysJ restF
    rw [List.filter_map, List.map_map]
    apply List.map_congr_left
    intro f hf
    have hm := (List.mem_filter.mp hf).1
    show D.tup [.str (J f.1), valF M' (J f.1)] = _
    have : valF M' (J f.1) = .str f.2 := by unfold valF; rw [hM.val hm]; rfl
    rw [this]
  have c : mComp [7] (mLkI keysD (mV 4)) (gN 7) (mAndT (mCmp ninD (mV 7) (mV 3)) (mTru (mCall 2 [] mf_law_has_room (mCons (mV 3) (mCons (mV 7) (fun _ => pure [])))))) (mTup (mCons (mV 7) (mCons (mOp subD (mV 4) (mV 7)) (fun _ => pure [])))) (viewA [a0, a1, a2, V_ (.dct (toK F)), V_ (.dct (toK M')), a5, a6, a7, a8, a9, a10, a11, a12]) R = some (.lst (itemsD (toK (restF F M'))), R) := by
    refine (comp_ok (xs := ((keysJ M').filter (keepB F)).map fun s => D.tup [.str s, valF M' s]) (R1 := R) (R2 := R) it (comp_filter (p := keepB F) _ (fun s hs => ?_) fun s hs _ => ?_) (by rw [List.length_map]; omega)).trans (by rw [e1])
    · obtain ⟨f, hm, rfl, _⟩ := in_keys hM hs
      have n1 : mCmp ninD (mV 7) (mV 3) ((wipeD (viewA [a0, a1, a2, V_ (.dct (toK F)), V_ (.dct (toK M')), a5, a6, a7, a8, a9, a10, a11, a12]) [7]).set 7 (some (.str (J f.1)))) R = some (!(valD (toK F) (.inr (J f.1))).isSome, R) :=
        cmp_ok (x := .str (J f.1)) (y := .dct (toK F)) (R1 := R) (R2 := R) rfl rfl (nin_dct _ _)
      unfold keepB
      cases z : (valD (toK F) (.inr (J f.1))).isSome with
      | true =>
        rw [z] at n1
        exact and_ff n1
      | false =>
        rw [z] at n1
        refine and_tt n1 (tru_ok' (x := .bl (room (keysJ F) (J f.1))) (call_ok' (xs := [.dct (toK F), .str (J f.1)]) (R1 := R) rfl rfl ?_) rfl)
        exact room_ok (J f.1) (small_J (hM.gp f hm)) (toK F) (keysJ F) R (keysS_toK F) (by rw [toK_len]; omega) fun k hk => by
          obtain ⟨g, hg, rfl⟩ := List.mem_map.mp hk
          exact small_J (hF.gp g hg)
    · obtain ⟨f, hm, rfl, hv⟩ := in_keys hM hs
      have ar : (mCons (mV 7) (mCons (mOp subD (mV 4) (mV 7)) (fun _ => pure []))) ((wipeD (viewA [a0, a1, a2, V_ (.dct (toK F)), V_ (.dct (toK M')), a5, a6, a7, a8, a9, a10, a11, a12]) [7]).set 7 (some (.str (J f.1)))) R = some ([.str (J f.1), valF M' (J f.1)], R) := by
        refine cons_ok (R1 := R) rfl (cons_ok (R1 := R) (op_ok (x := .dct (toK M')) (y := .str (J f.1)) (R1 := R) (R2 := R) rfl rfl ?_) rfl)
        show valD (toK M') (.inr (J f.1)) = some (valF M' (J f.1))
        unfold valF
        rw [hv]
        rfl
      exact (bind_ok ar).trans rfl
  exact fz_ok (funO_okD (cons_ok (fz_ok c rfl) rfl) (dict_items (gf_filter hM _))) rfl
end K2
set_option Elab.async false
set_option linter.all false
set_option maxRecDepth 100000
set_option maxHeartbeats 1000000
namespace K2
open PySem PySem.Spec PyProof.Rows L2 Nb RZ
/-! ### equal, unlike -/
theorem putF_self (F : FF) (l : List Str) (c : Str) : (l, c) ∈ putF F l c := by
  unfold putF
  split
  · rename_i q
    obtain ⟨f, hf, e⟩ := List.any_eq_true.mp q
    have e := of_decide_eq_true e
    exact List.mem_map.mpr ⟨f, hf, by rw [if_pos e, e]⟩
  · exact List.mem_append_right _ List.mem_cons_self
theorem putF_len2 {F : FF} {l : List Str} (c : Str) (h : (putF F l c).length = F.length) : ∃ f ∈ F, f.1 = l := by
  unfold putF at h
  split at h
  · rename_i q
    obtain ⟨f, hf, e⟩ := List.any_eq_true.mp q
    exact ⟨f, hf, of_decide_eq_true e⟩
  · rw [List.length_append, List.length_singleton] at h
    omega
theorem goV_off {G : FF} {f : List Str × Str} {v : V} (h1 : valV (flatF G) (.inr (J f.1)) = some v) (h2 : eqV (.str f.2) v = false) : ∀ (F : FF), f ∈ F → goV (flatF G) (flatF F) = false
  | [], hf => nomatch hf
  | g :: F, hf => by
    show (match valV (flatF G) (.inr (J g.1)) with
      | none => false
      | some y => eqV (.str g.2) y && goV (flatF G) (flatF F)) = false
    rcases List.mem_cons.mp hf with rfl | hf
    · rw [h1]
      dsimp only
      rw [h2]
      rfl
    · rw [goV_off h1 h2 F hf]
      split
      · rfl
      · rw [Bool.and_false]
theorem eq_diff {F G : FF} (hG : GF G) {f : List Str × Str} (hf : f ∈ F) {c : Str} (hg : (f.1, c) ∈ G) (ne : f.2 ≠ c) : eqD3 (.dct (toK F)) (.dct (toK G)) = some false := by
  show (none : Option Bool).or (if (toK F).length = (toK G).length then (flatK (toK F)).bind fun a => (flatK (toK G)).map fun b => goV b a else some false) = _
  split
  · rw [flatK_toK, flatK_toK]
    show some (goV (flatF G) (flatF F)) = _
    rw [goV_off (f := f) (v := .str c) (hG.valF hg) (by show (f.2 == c) = false; simpa using ne) F hf]
  · rfl
theorem eq_len {F G : FF} (h : F.length ≠ G.length) : eqD3 (.dct (toK F)) (.dct (toK G)) = some false := by
  show (none : Option Bool).or (if (toK F).length = (toK G).length then (flatK (toK F)).bind fun a => (flatK (toK G)).map fun b => goV b a else some false) = _
  rw [toK_len, toK_len, if_neg h]
  rfl
theorem eq_res {F G : FF} {b : Bool} (e : eqD3 (.dct (toK F)) (.dct (toK G)) = some b) (B1 B2 : List (Key × D)) (R : Sr) : mf_Tree___eq__ [tre F B1, tre G B2] R = some (.bl b, R) := by
  refine def_rt (ret_of ?_)
  refine (bind_ok (a := .bl true) (s1 := R) (fun_okD (cons_ok rfl (cons_ok rfl rfl)) (isC _ _))).trans ?_
  refine (bind_ok (a := true) (s1 := R) rfl).trans ?_
  exact asE_ok (cmp_ok (x := .dct (toK F)) (y := .dct (toK G)) (R1 := R) (R2 := R) rfl rfl e)
theorem eq_off (F : FF) (B : List (Key × D)) {d : D} (h : isC2 "Tree" [d, .cls "Tree"] = some (.bl false)) (R : Sr) : mf_Tree___eq__ [tre F B, d] R = some (.bl false, R) := by
  refine def_rt (ret_of ?_)
  refine (bind_ok (a := .bl false) (s1 := R) (fun_okD (xs := [d, .cls "Tree"]) (R1 := R) (cons_ok rfl (cons_ok rfl rfl)) h)).trans ?_
  exact (bind_ok (a := false) (s1 := R) rfl).trans rfl
theorem ty_tre (F : FF) (B : List (Key × D)) : tyD "Tree" (tre F B) = true := by unfold tyD tre; simp
section
variable {F G : FF} {B1 B2 : List (Key × D)} {ma mb : ME} {τ : Tau} {R R1 R2 : Sr} {b : Bool}
theorem ownEqT_b (h : ma τ R = some (tre F B1, R1)) (k : mb τ R1 = some (tre G B2, R2)) (e : eqD3 (.dct (toK F)) (.dct (toK G)) = some b) : mOwnEqT "Tree" mf_Tree___eq__ ma mb τ R = some (b, R2) := by
  refine (bind_ok h).trans ((bind_ok k).trans ?_)
  rw [if_pos ⟨ins_tre F B1, ty_tre G B2⟩]
  exact (bind_ok (eq_res e B1 B2 R2)).trans rfl
theorem ownNeT_b (h : ma τ R = some (tre F B1, R1)) (k : mb τ R1 = some (tre G B2, R2)) (e : eqD3 (.dct (toK F)) (.dct (toK G)) = some b) : mOwnNeT "Tree" mf_Tree___eq__ ma mb τ R = some (!b, R2) := by
  refine (bind_ok h).trans ((bind_ok k).trans ?_)
  rw [if_pos ⟨ins_tre F B1, ty_tre G B2⟩]
  exact (bind_ok (eq_res e B1 B2 R2)).trans rfl
theorem ownEq_off {d : D} (h : ma τ R = some (tre F B1, R1)) (k : mb τ R1 = some (d, R2)) (t : tyD "Tree" d = true) (e : isC2 "Tree" [d, .cls "Tree"] = some (.bl false)) : mOwnEq "Tree" mf_Tree___eq__ ma mb τ R = some (.bl false, R2) := by
  refine (bind_ok h).trans ((bind_ok k).trans ?_)
  rw [if_pos ⟨ins_tre F B1, t⟩]
  exact eq_off F B1 e R2
theorem ownOp_ok {d : D} {R' : Sr} (h : ma τ R = some (tre F B1, R1)) (k : mb τ R1 = some (tre G B2, R2)) (e : mf_Tree___or__ [tre F B1, tre G B2] R2 = some (d, R')) : mOwnOp "Tree" mf_Tree___or__ ma mb τ R = some (d, R') := by
  refine (bind_ok h).trans ((bind_ok k).trans ?_)
  rw [if_pos ⟨ins_tre F B1, ins_tre G B2⟩]
  exact e
end
/-! ### reversed, put together -/
theorem gf_rev {F : FF} (h : GF F) : GF F.reverse := (h.of_same (fun f => by rw [List.mem_reverse]) (by rw [List.map_reverse]; exact (List.reverse_perm _).nodup_iff.mpr h.nd)).1
theorem items_rev (F : FF) : (itemsD (toK F)).reverse = itemsD (toK F.reverse) := by rw [items_toK, items_toK, List.map_reverse]
theorem items_app (F G : FF) : itemsD (toK F) ++ itemsD (toK G) = itemsD (toK (F ++ G)) := by rw [items_toK, items_toK, items_toK, List.map_append]
theorem add_lst {a b : List D} (h : a.length + b.length ≤ 1000) : addD (.lst a) (.lst b) = some (.lst (a ++ b)) := by
  have : a.length + b.length ≤ sizeLine := by rw [sizeLine_eq]; omega
  simp [addD, orF, addI, addS, addL, this]
theorem items_len (F : FF) : (itemsD (toK F)).length = F.length := by rw [items_toK, List.length_map]
def revMe : Tau → M Own := mFunO dictO2 (mCons (mFun1 revF (mFun1 itF (mV 3))) (fun _ => pure []))
theorem rev_ok {F : FF} (h : GF F) {τ : Tau} (h3 : τ[3]? = some (some (.dct (toK F)))) (R : Sr) : revMe τ R = some (.dct (toK F.reverse), R) := by
  refine funO_okD (xs := [.lst (itemsD (toK F.reverse))]) (R1 := R) (cons_ok (fun1_ok (x := .lst (itemsD (toK F))) (fun1_ok (x := .dct (toK F)) (mV_ok h3) rfl) ?_) rfl) (dict_items (gf_rev h))
  show some (D.lst (itemsD (toK F)).reverse) = _
  rw [items_rev]
def bothMe : ME := mFz (mFunO dictO2 (mCons (mOp addD (mFun1 itF (mV 3)) (mFun1 itF (mV 8))) (fun _ => pure [])))
theorem both_ok {F G : FF} (h : GF (F ++ G)) {τ : Tau} (h3 : τ[3]? = some (some (.dct (toK F)))) (h8 : τ[8]? = some (some (.dct (toK G)))) (R : Sr) : bothMe τ R = some (.dct (toK (F ++ G)), R) := by
  have few := h.few
  rw [List.length_append] at few
  refine fz_ok (funO_okD (xs := [.lst (itemsD (toK (F ++ G)))]) (R1 := R) (cons_ok (op_ok (x := .lst (itemsD (toK F))) (y := .lst (itemsD (toK G))) (R1 := R) (R2 := R) (fun1_ok (x := .dct (toK F)) (mV_ok h3) rfl) (fun1_ok (x := .dct (toK G)) (mV_ok h8) rfl) ?_) rfl) (dict_items h)) rfl
  rw [add_lst (by rw [items_len, items_len]; omega), items_app]
end K2
set_option Elab.async false
set_option linter.all false
set_option maxRecDepth 100000
set_option maxHeartbeats 1000000
namespace K2
open PySem PySem.Spec PyProof.Rows L2 Nb RZ
/-! ### single things -/
theorem J_one (x : Str) : J [x] = x := cl_inj (by rw [cl_J]; rfl)
theorem gp_one {x : Str} (h : NameOk x = true) : GP [x] := ⟨by simp, by simp, fun y hy => by rw [List.mem_singleton.mp hy]; exact h⟩
theorem nm_a : NameOk "a" = true := by decide +kernel
theorem nm_b : NameOk "b" = true := by decide +kernel
theorem nm_z : NameOk "zz" = true := by decide +kernel
theorem not_key {F : FF} (h : GF F) {s : Str} (hs : cl s = [] ∨ ∃ c ∈ cl s, okp c = false) : (valD (toK F) (.inr s)).isSome = false := by
  cases z : (valD (toK F) (.inr s)).isSome with
  | false => rfl
  | true =>
    obtain ⟨f, hf, e⟩ := List.mem_map.mp ((has_iff F s).mp z)
    have e : J f.1 = s := e
    have g := h.gp f hf
    rcases hs with hs | ⟨c, hc, oc⟩
    · rw [← e] at hs; exact absurd hs (J_ne g)
    · rw [← e] at hc
      rw [g.chars c hc] at oc; cases oc
theorem cl_A : ∃ c ∈ cl ("A" : Str), okp c = false := ⟨65, by decide +kernel, by decide⟩
theorem cl_0 : cl ("" : Str) = [] := by decide +kernel
def odds (F : FF) (B : List (Key × D)) : List D := [.non, .int 5, .bl true, .lst [], .tup [.str "a"], .dct [], .str "", .str "A", tre F B]
theorem isiC_tre (F : FF) (B : List (Key × D)) : isiC "Tree" [tre F B, .ty "str"] = some (.bl false) := by
  unfold isiC
  have e1 : isiD [tre F B, .ty "str"] = none := by kernel_rfl
  rw [e1]
  show (if insOf "Tree" (tre F B) = true then some (D.bl false) else none) = _
  rw [if_pos (ins_tre F B)]
theorem odd_off {F : FF} (h : GF F) (B : List (Key × D)) {d : D} (hd : d ∈ odds F B) (R : Sr) : mf_Tree___contains__ [tre F B, d] R = some (.bl false, R) := by
  unfold odds at hd
  simp only [List.mem_cons, List.not_mem_nil, or_false] at hd
  rcases hd with rfl | rfl | rfl | rfl | rfl | rfl | rfl | rfl | rfl
  · exact cont_off F B (by kernel_rfl) R
  · exact cont_off F B (by kernel_rfl) R
  · exact cont_off F B (by kernel_rfl) R
  · exact cont_off F B (by kernel_rfl) R
  · exact cont_off F B (by kernel_rfl) R
  · exact cont_off F B (by kernel_rfl) R
  · rw [cont_str, not_key h (.inl cl_0)]
  · rw [cont_str, not_key h (.inr cl_A)]
  · exact cont_off F B (isiC_tre F B) R
theorem gf_app {F G : FF} (hF : GF F) (hG : GF G) (few : F.length + G.length ≤ 12) (ap : ∀ f ∈ F, ∀ g ∈ G, Apart2 f g) : GF (F ++ G) :=
  ⟨fun f hf => (List.mem_append.mp hf).elim (hF.gp f) (hG.gp f), fun f hf => (List.mem_append.mp hf).elim (hF.l3 f) (hG.l3 f), by rw [List.length_append]; exact few, List.pairwise_append.mpr ⟨hF.apart, hG.apart, ap⟩⟩
theorem same_app {F G F' G' : FF} (s : SameM F G) (s' : SameM F' G') : SameM (F ++ F') (G ++ G') := fun f => by rw [List.mem_append, List.mem_append, s, s']
/-! a path that is bent -/
theorem bent_path {F : FF} (h : GF F) (z : Zf F) {s : Str} (hs : s ∈ srt (keysJ F) ++ (["zz"] : List Str)) : ∃ l, s = J l ∧ GP l ∧ l.length ≤ 3 ∧ ∀ f ∈ F, pre f.1 l = false ∧ pre l f.1 = false := by
  rcases List.mem_append.mp hs with hs | hs
  · obtain ⟨f, hf, e⟩ := List.mem_map.mp (srt_mem.mp hs)
    exact ⟨f.1, e.symm, h.gp f hf, h.l3 f hf, fun g hg => ⟨h.apart2 hg hf, h.apart2 hf hg⟩⟩
  · rw [List.mem_singleton.mp hs]
    refine ⟨["zz"], (J_one _).symm, gp_one nm_z, by decide, fun f hf => ⟨?_, ?_⟩⟩
    · cases q : pre f.1 ["zz"] with
      | false => rfl
      | true =>
        obtain ⟨c, hc, e⟩ := pre_iff.mp q
        have l := congrArg List.length e
        have l1 := (h.gp f hf).1
        have l2 := List.length_pos_iff.mpr hc
        rw [List.length_append, List.length_singleton] at l
        omega
    · cases q : pre ["zz"] f.1 with
      | false => rfl
      | true =>
        obtain ⟨c, hc, e⟩ := pre_iff.mp q
        exact absurd rfl ((z f hf).1 "zz" (by rw [e]; exact List.mem_cons_self))
theorem bent_unlike {F FA NA : FF} (h : GF F) (z : Zf F) (sm : SameM FA F) (ga : GF FA) {l : List Str} (hN : GF (putF F l "bent")) (gn : GF NA) (sn : SameM NA (putF F l "bent")) : eqD3 (.dct (toK FA)) (.dct (toK NA)) = some false := by
  have lA : FA.length = F.length := (h.of_same sm ga.nd).2
  have lN : NA.length = (putF F l "bent").length := (hN.of_same sn gn.nd).2
  by_cases e : FA.length = NA.length
  · obtain ⟨f, hf, ef⟩ := putF_len2 "bent" (by rw [← lN, ← e, lA] : (putF F l "bent").length = F.length)
    refine eq_diff gn ((sm f).mpr hf) (c := "bent") ((sn _).mpr ?_) (z f hf).2
    rw [ef]
    exact putF_self F l "bent"
  · exact eq_len e
end K2
set_option Elab.async false
set_option linter.all false
set_option maxRecDepth 100000
set_option maxHeartbeats 1000000
namespace K2
open PySem PySem.Spec PyProof.Rows L2 Nb RZ
/-! ### the law's parts -/
def retF : MS := mRet (evA (mC (.bl false)))
def lA : MS := mTwo 3 4 (evRv (evA (mFz (mCallO 2 [] mf_law_some_files (mCons (mV 2) (mCons (mC (.int 7)) (fun _ => pure []))))))) (evRv (evA (mFz (mCallO 2 [] mf_law_some_files (mCons (mV 2) (mCons (mC (.int 4)) (fun _ => pure [])))))))
def lB : MS := mNew 5 (evP (mFunO dictO2 (mCons (mV 3) (fun _ => pure []))))
def lC : MS := mSet (gN 6) (evN (mMakeN "Tree" 1 mf_Tree_init (mCons (mV 5) (fun _ => pure []))))
def lD : MS := mPut 5 (evA (mC (.str "zz"))) (evA (mC (.str "later")))
def lE : MS := mIfS (evT (mOrT (mNotT (mTru (mCall 2 [] mf_law_is_told (mCons (mV 6) (mCons (mV 3) (fun _ => pure [])))))) (mOrT (mNotT (mTru (mCall 2 [] mf_law_is_told (mCons (mMake "Tree" 1 [.non] mf_Tree_init (fun _ => pure [])) (mCons (mFz (fun _ => pure (.dct []))) (fun _ => pure [])))))) (mNotT (mTru (mCall 2 [] mf_law_is_told (mCons (mMake "Tree" 1 [] mf_Tree_init (mCons (mC .non) (fun _ => pure []))) (mCons (mFz (fun _ => pure (.dct []))) (fun _ => pure []))))))))) retF mNil
def lFi : Tau → M (List D) := mSeqI (mLst (mCons (mCall 2 [] mf_law_some_path (mCons (mV 2) (mCons (mC (.int 2)) (fun _ => pure [])))) (mCons (mC (.str "a")) (mCons (mC (.str "b")) (fun _ => pure [])))))
def lF : MS := mFor lFi (gN 7) bP
def lG : MS := mSet (gN 8) (evA rMe)
def lH : MS := mSet (gN 9) (evA bothMe)
def lI : MS := mIfS (evT (mOrT (mNotT (mTru (mCall 2 [] mf_law_is_told (mCons (mOwnOp "Tree" mf_Tree___or__ (mV 6) (mMake "Tree" 1 [] mf_Tree_init (mCons (mV 8) (fun _ => pure [])))) (mCons (mV 9) (fun _ => pure [])))))) (mNotT (mTru (mCall 2 [] mf_law_is_told (mCons (mV 6) (mCons (mV 3) (fun _ => pure [])))))))) retF mNil
def lJl : Tau → M (List D) := mCons (mC .non) (mCons (mC (.int 5)) (mCons (mC (.bl true)) (mCons (mLst (fun _ => pure [])) (mCons (mTup (mCons (mC (.str "a")) (fun _ => pure []))) (mCons (mFz (fun _ => pure (.dct []))) (mCons (mC (.str "")) (mCons (mC (.str "A")) (mCons (mV 6) (fun _ => pure [])))))))))
def lJ : MS := mSet (gN 10) (evA (mCall 2 [] mf_law_pick (mCons (mV 2) (mCons (mLst lJl) (fun _ => pure [])))))
def lKi : Tau → M (List D) := mSeqI (mTup (mCons (mC .non) (mCons (mV 3) (mCons (mC (.str "a")) (mCons (mLst (fun _ => pure [])) (fun _ => pure []))))))
def lK : MS := mIfS (evT (mOrT (mCmp notB2 (mOwnIn "Tree" mf_Tree___contains__ (mV 10) (mV 6)) (mC (.bl false))) (mTru (mFun anyD (mCons (mFz (mComp [11] lKi (gN 11) tYesM (mOwnEq "Tree" mf_Tree___eq__ (mV 6) (mV 11)))) (fun _ => pure [])))))) retF mNil
def lL : MS := mIfS (evT (mOrT (mNotT (mOwnEqT "Tree" mf_Tree___eq__ (mV 6) (mMake "Tree" 1 [] mf_Tree_init (mCons (mFz revMe) (fun _ => pure []))))) (mOwnNeT "Tree" mf_Tree___eq__ (mV 6) (mMake "Tree" 1 [] mf_Tree_init (mCons (mV 3) (fun _ => pure [])))))) retF mNil
def lM : MS := mSet (gN 7) (evA (mCall 2 [] mf_law_pick (mCons (mV 2) (mCons (mOp addD (mFz (mFunO sortO (mCons (mV 3) (fun _ => pure [])))) (mLst (mCons (mC (.str "zz")) (fun _ => pure [])))) (fun _ => pure [])))))
def lN : MS := mNew 12 (evP (mFunO dictO2 (mCons (mV 3) (fun _ => pure []))))
def lO : MS := mPut 12 (evA (mV 7)) (evA (mC (.str "bent")))
def lP : MS := mIfS (evT (mOrT (mOwnEqT "Tree" mf_Tree___eq__ (mV 6) (mMake "Tree" 1 [] mf_Tree_init (mCons (mV 12) (fun _ => pure [])))) (mNotT (mOwnNeT "Tree" mf_Tree___eq__ (mV 6) (mMake "Tree" 1 [] mf_Tree_init (mCons (mV 12) (fun _ => pure []))))))) retF mNil
def lRest : MS := mSeq lA (mSeq lB (mSeq lC (mSeq lD (mSeq lE (mSeq lF (mSeq lG (mSeq lH (mSeq lI (mSeq lJ (mSeq lK (mSeq lL (mSeq lM (mSeq lN (mSeq lO (mFrz 12 lP)))))))))))))))
def tNew : MS := mNew 2 (evP (mCallO 2 [] mf_law_source (mCons (mV 0) (mCons (mV 1) (fun _ => pure [])))))
def tTurn : MS := mSeq tNew (mSrc 2 lRest)
def tTurns : Tau → M (List D) := mFunI rngF1 (mCons (mOp addD (mC (.int 5)) (mFun min2 (mCons (mFun lenD (mCons (mV 0) (fun _ => pure []))) (mCons (mC (.int 5)) (fun _ => pure []))))) (fun _ => pure []))
theorem mb_law_eq : mb_law = mSeq (mFor tTurns (gN 1) tTurn) (mRet (evA (mC (.bl true)))) := rfl
/-! ### made while the dict handed in is seen; told -/
theorem mkN_ok {F FA : FF} {B : List (Key × D)} {ms : Tau → M (List D)} {τ : Tau} {R R1 : Sr} (h : ms τ R = some ([.dct (toK F)], R1)) (k : mf_Tree_init [.dct (toK F)] R1 = some ([.dct (toK FA), .dct B], R1)) (nb : newDc (.dct B) = true) : mMakeN "Tree" 1 mf_Tree_init ms τ R = some (tre FA B, R1) := by
  refine (bind_ok h).trans ?_
  refine (bind_ok (a := [.dct (toK FA), .dct B]) (s1 := R1) ((congrFun (if_pos rfl) R1).trans k)).trans ?_
  rw [opt_ap, if_pos (by rw [List.all_cons, List.all_cons, new_toK, nb]; rfl)]
  rfl
theorem mk0_ok (τ : Tau) (R : Sr) : mMake "Tree" 1 [.non] mf_Tree_init (fun _ => pure []) τ R = some (tre [] [], R) := by
  refine (bind_ok (a := []) (s1 := R) rfl).trans ?_
  exact (bind_ok (a := [.dct [], .dct []]) (s1 := R) ((congrFun (if_pos rfl) R).trans (init_non R))).trans rfl
theorem told_me {F FA : FF} {B : List (Key × D)} (t : Tr F FA B) {ma mb : ME} {τ : Tau} {R R1 R2 : Sr} (h : ma τ R = some (tre FA B, R1)) (k : mb τ R1 = some (.dct (toK F), R2)) : mNotT (mTru (mCall 2 [] mf_law_is_told (mCons ma (mCons mb (fun _ => pure []))))) τ R = some (false, R2) :=
  not_ok' (b := true) (tru_ok' (x := .bl true) (call_ok' (cons_ok h (cons_ok k rfl)) rfl (told_ok t R2)) rfl)
theorem mkT_ok {F FA : FF} {B : List (Key × D)} {ma : ME} {τ : Tau} {R R1 : Sr} (h : ma τ R = some (.dct (toK F), R1)) (k : mf_Tree_init [.dct (toK F)] R1 = some ([.dct (toK FA), .dct B], R1)) : mMake "Tree" 1 [] mf_Tree_init (mCons ma (fun _ => pure [])) τ R = some (tre FA B, R1) :=
  mk_ok (xs := [.dct (toK F)]) (R1 := R1) (cons_ok h rfl) rfl k
theorem first_half (ns : List Int) (hd : DrawsOk ns) (a0 a1 a3 a4 a5 a6 a7 a8 a9 a10 a11 a12 : Option Sv) : ∃ (F FA N : FF) (B : List (Key × D)) (n2 : List Int), Zf F ∧ F.length ≤ 7 ∧ N.length ≤ 4 ∧ GF N ∧ Tr F FA B ∧ DrawsOk n2 ∧
    ∀ m : MS, mSeq lA (mSeq lB (mSeq lC (mSeq lD (mSeq lE m)))) [a0, a1, V_ .src, a3, a4, a5, a6, a7, a8, a9, a10, a11, a12] (some ns) = m [a0, a1, V_ .src, V_ (.dct (toK F)), V_ (.dct (toK N)), some (.own (.dct (putD (toK F) (.inr "zz") (.str "later")))), V_ (tre FA B), a7, a8, a9, a10, a11, a12] (some n2) := by
  obtain ⟨F, n1, e1, hF, zF, f7, d1⟩ := some_files_ok ns hd
  obtain ⟨N, n2, e2, hN, _, f4, d2⟩ := some_files_ok4 n1 d1
  obtain ⟨FA, B, eT, t, nb⟩ := tr_of hF (some n2)
  refine ⟨F, FA, N, B, n2, zF, f7, f4, hN, t, d2, fun m => ?_⟩
  have s1 : lA [a0, a1, V_ .src, a3, a4, a5, a6, a7, a8, a9, a10, a11, a12] (some ns) = .nx [a0, a1, V_ .src, V_ (.dct (toK F)), V_ (.dct (toK N)), a5, a6, a7, a8, a9, a10, a11, a12] (some n2) := by
    have m1 : mFz (mCallO 2 [] mf_law_some_files (mCons (mV 2) (mCons (mC (.int 7)) (fun _ => pure [])))) (viewA [a0, a1, V_ .src, a3, a4, a5, a6, a7, a8, a9, a10, a11, a12]) (some ns) = some (.dct (toK F), some n1) := fz_ok (ob := .dct (toK F)) (callO_ok (xs := [.src, .int 7]) (R1 := some ns) rfl rfl e1) rfl
    have m2 : mFz (mCallO 2 [] mf_law_some_files (mCons (mV 2) (mCons (mC (.int 4)) (fun _ => pure [])))) (viewA [a0, a1, V_ .src, a3, a4, a5, a6, a7, a8, a9, a10, a11, a12]) (some n1) = some (.dct (toK N), some n2) := fz_ok (ob := .dct (toK N)) (callO_ok (xs := [.src, .int 4]) (R1 := some n1) rfl rfl e2) rfl
    exact (two_ok (a := .val (.dct (toK F))) (b := .val (.dct (toK N))) (R1 := some n1) (R2 := some n2) ((bind_ok m1).trans rfl) ((bind_ok m2).trans rfl)).trans rfl
  have s2 : lB [a0, a1, V_ .src, V_ (.dct (toK F)), V_ (.dct (toK N)), a5, a6, a7, a8, a9, a10, a11, a12] (some n2) = .nx [a0, a1, V_ .src, V_ (.dct (toK F)), V_ (.dct (toK N)), some (.own (.dct (toK F))), a6, a7, a8, a9, a10, a11, a12] (some n2) :=
    (new_of (ob := .dct (toK F)) (R' := some n2) (funO_okD (xs := [.dct (toK F)]) (R1 := some n2) (cons_ok rfl rfl) (dict_dct _))).trans rfl
  have s3 : lC [a0, a1, V_ .src, V_ (.dct (toK F)), V_ (.dct (toK N)), some (.own (.dct (toK F))), a6, a7, a8, a9, a10, a11, a12] (some n2) = .nx [a0, a1, V_ .src, V_ (.dct (toK F)), V_ (.dct (toK N)), some (.own (.dct (toK F))), V_ (tre FA B), a7, a8, a9, a10, a11, a12] (some n2) := by
    have m1 : mMakeN "Tree" 1 mf_Tree_init (mCons (mV 5) (fun _ => pure [])) (viewD [a0, a1, V_ .src, V_ (.dct (toK F)), V_ (.dct (toK N)), some (.own (.dct (toK F))), a6, a7, a8, a9, a10, a11, a12]) (some n2) = some (tre FA B, some n2) := mkN_ok (R1 := some n2) (cons_ok (R1 := some n2) rfl rfl) eT nb
    exact (set_of (us := [(6, tre FA B)]) (R' := some n2) m1 rfl).trans rfl
  have s4 : lD [a0, a1, V_ .src, V_ (.dct (toK F)), V_ (.dct (toK N)), some (.own (.dct (toK F))), V_ (tre FA B), a7, a8, a9, a10, a11, a12] (some n2) = .nx [a0, a1, V_ .src, V_ (.dct (toK F)), V_ (.dct (toK N)), some (.own (.dct (putD (toK F) (.inr "zz") (.str "later")))), V_ (tre FA B), a7, a8, a9, a10, a11, a12] (some n2) :=
    (put_ok2 (d := .str "later") (k := .inr "zz") (kd := .str "zz") (R1 := some n2) (R2 := some n2) (kvs := toK F) rfl rfl rfl rfl (by rw [toK_len]; omega)).trans rfl
  have s5 : lE [a0, a1, V_ .src, V_ (.dct (toK F)), V_ (.dct (toK N)), some (.own (.dct (putD (toK F) (.inr "zz") (.str "later")))), V_ (tre FA B), a7, a8, a9, a10, a11, a12] (some n2) = .nx [a0, a1, V_ .src, V_ (.dct (toK F)), V_ (.dct (toK N)), some (.own (.dct (putD (toK F) (.inr "zz") (.str "later")))), V_ (tre FA B), a7, a8, a9, a10, a11, a12] (some n2) := by
    refine (if_ff (R' := some n2) ?_).trans rfl
    refine or_ff (R1 := some n2) (told_me t (R1 := some n2) rfl rfl) (or_ff (R1 := some n2) (told_me tr_nil (R1 := some n2) (mk0_ok _ _) rfl) (told_me tr_nil (R1 := some n2) (mk_ok (xs := [.non]) (R1 := some n2) (cons_ok rfl rfl) rfl (init_non _)) rfl))
  exact (seq_nx s1).trans ((seq_nx s2).trans ((seq_nx s3).trans ((seq_nx s4).trans (seq_nx s5))))
end K2
set_option Elab.async false
set_option linter.all false
set_option maxRecDepth 100000
set_option maxHeartbeats 1000000
namespace K2
open PySem PySem.Spec PyProof.Rows L2 Nb RZ
theorem paths_ok {F FA N : FF} {B : List (Key × D)} (t : Tr F FA B) (ns : List Int) (hd : DrawsOk ns) (a0 a1 a7 a8 a9 a10 a11 a12 : Option Sv) : ∃ n3, DrawsOk n3 ∧ lF [a0, a1, V_ .src, V_ (.dct (toK F)), V_ (.dct (toK N)), some (.own (.dct (putD (toK F) (.inr "zz") (.str "later")))), V_ (tre FA B), a7, a8, a9, a10, a11, a12] (some ns) = .nx [a0, a1, V_ .src, V_ (.dct (toK F)), V_ (.dct (toK N)), some (.own (.dct (putD (toK F) (.inr "zz") (.str "later")))), V_ (tre FA B), V_ (.str "b"), a8, a9, a10, a11, a12] (some n3) := by
  obtain ⟨p, l, n3, e1, pk, _, _, d3⟩ := some_path ns hd 2 (by decide) (by decide)
  have gl : GP l := ⟨pk.2.1, pk.2.2.1, pk.2.2.2⟩
  have ep : p = J l := pk.1
  subst ep
  refine ⟨n3, d3, ?_⟩
  have it : lFi (viewA [a0, a1, V_ .src, V_ (.dct (toK F)), V_ (.dct (toK N)), some (.own (.dct (putD (toK F) (.inr "zz") (.str "later")))), V_ (tre FA B), a7, a8, a9, a10, a11, a12]) (some ns) = some ([.str (J l), .str "a", .str "b"], some n3) := by
    have ar : (mCons (mCall 2 [] mf_law_some_path (mCons (mV 2) (mCons (mC (.int 2)) (fun _ => pure [])))) (mCons (mC (.str "a")) (mCons (mC (.str "b")) (fun _ => pure [])))) (viewA [a0, a1, V_ .src, V_ (.dct (toK F)), V_ (.dct (toK N)), some (.own (.dct (putD (toK F) (.inr "zz") (.str "later")))), V_ (tre FA B), a7, a8, a9, a10, a11, a12]) (some ns) = some ([.str (J l), .str "a", .str "b"], some n3) :=
      cons_ok (call_ok' (xs := [.src, .int 2]) (R1 := some ns) rfl rfl e1) (cons_ok rfl (cons_ok rfl rfl))
    exact (bind_ok ((bind_ok ar).trans rfl)).trans rfl
  have p1 := path_turn t gl a0 a1 (V_ .src) (V_ (.dct (toK N))) (some (.own (.dct (putD (toK F) (.inr "zz") (.str "later"))))) a8 a9 a10 a11 a12 (some n3)
  have pa := path_turn t (gp_one nm_a) a0 a1 (V_ .src) (V_ (.dct (toK N))) (some (.own (.dct (putD (toK F) (.inr "zz") (.str "later"))))) a8 a9 a10 a11 a12 (some n3)
  have pb := path_turn t (gp_one nm_b) a0 a1 (V_ .src) (V_ (.dct (toK N))) (some (.own (.dct (putD (toK F) (.inr "zz") (.str "later"))))) a8 a9 a10 a11 a12 (some n3)
  rw [J_one] at pa pb
  exact (for_of it).trans ((loop_nx (us := [(7, .str (J l))]) rfl rfl p1).trans ((loop_nx (us := [(7, .str "a")]) rfl rfl pa).trans ((loop_nx (us := [(7, .str "b")]) rfl rfl pb).trans rfl)))
theorem joined_ok {F FA N : FF} {B : List (Key × D)} (t : Tr F FA B) (hN : GF N) (few : F.length + N.length ≤ 12) (a0 a1 a8 a9 a10 a11 a12 : Option Sv) (R : Sr) (m : MS) : mSeq lG (mSeq lH (mSeq lI m)) [a0, a1, V_ .src, V_ (.dct (toK F)), V_ (.dct (toK N)), some (.own (.dct (putD (toK F) (.inr "zz") (.str "later")))), V_ (tre FA B), V_ (.str "b"), a8, a9, a10, a11, a12] R = m [a0, a1, V_ .src, V_ (.dct (toK F)), V_ (.dct (toK N)), some (.own (.dct (putD (toK F) (.inr "zz") (.str "later")))), V_ (tre FA B), V_ (.str "b"), V_ (.dct (toK (restF F N))), V_ (.dct (toK (F ++ restF F N))), a10, a11, a12] R := by
  have hF := t.gf
  have hb := gf_both hF hN few
  have hR : GF (restF F N) := gf_filter hN _
  have fl : (restF F N).length ≤ N.length := List.length_filter_le _ _
  obtain ⟨RA, RB, eR, u, _⟩ := tr_of hR R
  have ap : ∀ f ∈ FA, ∀ g ∈ RA, Apart2 f g := fun f hf g hg => rest_apart hF hN ((t.sm f).mp hf) ((u.sm g).mp hg)
  have lA : FA.length = F.length := (hF.of_same t.sm t.ga.nd).2
  have lR : RA.length = (restF F N).length := (hR.of_same u.sm u.ga.nd).2
  have hU := gf_app t.ga u.ga (by omega) ap
  obtain ⟨UA, UB, eU, w⟩ := or_ok t.ga u.ga hU ap B RB R
  have w2 := w.of hb (same_app t.sm u.sm)
  have s1 : lG [a0, a1, V_ .src, V_ (.dct (toK F)), V_ (.dct (toK N)), some (.own (.dct (putD (toK F) (.inr "zz") (.str "later")))), V_ (tre FA B), V_ (.str "b"), a8, a9, a10, a11, a12] R = .nx [a0, a1, V_ .src, V_ (.dct (toK F)), V_ (.dct (toK N)), some (.own (.dct (putD (toK F) (.inr "zz") (.str "later")))), V_ (tre FA B), V_ (.str "b"), V_ (.dct (toK (restF F N))), a9, a10, a11, a12] R := (set_of (us := [(8, .dct (toK (restF F N)))]) (R' := R) (rest_ok hF hN a0 a1 (V_ .src) (some (.own (.dct (putD (toK F) (.inr "zz") (.str "later"))))) (V_ (tre FA B)) (V_ (.str "b")) a8 a9 a10 a11 a12 R) rfl).trans rfl
  have s2 : lH [a0, a1, V_ .src, V_ (.dct (toK F)), V_ (.dct (toK N)), some (.own (.dct (putD (toK F) (.inr "zz") (.str "later")))), V_ (tre FA B), V_ (.str "b"), V_ (.dct (toK (restF F N))), a9, a10, a11, a12] R = .nx [a0, a1, V_ .src, V_ (.dct (toK F)), V_ (.dct (toK N)), some (.own (.dct (putD (toK F) (.inr "zz") (.str "later")))), V_ (tre FA B), V_ (.str "b"), V_ (.dct (toK (restF F N))), V_ (.dct (toK (F ++ restF F N))), a10, a11, a12] R := (set_of (us := [(9, .dct (toK (F ++ restF F N)))]) (R' := R) (both_ok hb rfl rfl R) rfl).trans rfl
  have s3 : lI [a0, a1, V_ .src, V_ (.dct (toK F)), V_ (.dct (toK N)), some (.own (.dct (putD (toK F) (.inr "zz") (.str "later")))), V_ (tre FA B), V_ (.str "b"), V_ (.dct (toK (restF F N))), V_ (.dct (toK (F ++ restF F N))), a10, a11, a12] R = .nx [a0, a1, V_ .src, V_ (.dct (toK F)), V_ (.dct (toK N)), some (.own (.dct (putD (toK F) (.inr "zz") (.str "later")))), V_ (tre FA B), V_ (.str "b"), V_ (.dct (toK (restF F N))), V_ (.dct (toK (F ++ restF F N))), a10, a11, a12] R := by
    refine (if_ff (R' := R) ?_).trans rfl
    exact or_ff (R1 := R) (told_me w2 (R1 := R) (ownOp_ok (R1 := R) (R2 := R) rfl (mkT_ok (F := restF F N) rfl eR) eU) rfl) (told_me t (R1 := R) rfl rfl)
  exact (seq_nx s1).trans ((seq_nx s2).trans (seq_nx s3))
theorem odd_ok {F FA N : FF} {B : List (Key × D)} (t : Tr F FA B) (ns : List Int) (hd : DrawsOk ns) (a0 a1 a8 a9 a10 a11 a12 : Option Sv) : ∃ (d : D) (n4 : List Int), DrawsOk n4 ∧ ∀ m : MS, mSeq lJ (mSeq lK (mSeq lL m)) [a0, a1, V_ .src, V_ (.dct (toK F)), V_ (.dct (toK N)), some (.own (.dct (putD (toK F) (.inr "zz") (.str "later")))), V_ (tre FA B), V_ (.str "b"), a8, a9, a10, a11, a12] (some ns) = m [a0, a1, V_ .src, V_ (.dct (toK F)), V_ (.dct (toK N)), some (.own (.dct (putD (toK F) (.inr "zz") (.str "later")))), V_ (tre FA B), V_ (.str "b"), a8, a9, V_ d, a11, a12] (some n4) := by
  obtain ⟨d, n4, e, hm, d4⟩ := pick ns hd (odds FA B) (by unfold odds; simp) (by unfold odds; simp)
  refine ⟨d, n4, d4, fun m => ?_⟩
  have hF := t.gf
  have ar : lJl (viewA [a0, a1, V_ .src, V_ (.dct (toK F)), V_ (.dct (toK N)), some (.own (.dct (putD (toK F) (.inr "zz") (.str "later")))), V_ (tre FA B), V_ (.str "b"), a8, a9, a10, a11, a12]) (some ns) = some (odds FA B, some ns) := rfl
  have al : mLst lJl (viewA [a0, a1, V_ .src, V_ (.dct (toK F)), V_ (.dct (toK N)), some (.own (.dct (putD (toK F) (.inr "zz") (.str "later")))), V_ (tre FA B), V_ (.str "b"), a8, a9, a10, a11, a12]) (some ns) = some (.lst (odds FA B), some ns) := (bind_ok ar).trans rfl
  have s1 : lJ [a0, a1, V_ .src, V_ (.dct (toK F)), V_ (.dct (toK N)), some (.own (.dct (putD (toK F) (.inr "zz") (.str "later")))), V_ (tre FA B), V_ (.str "b"), a8, a9, a10, a11, a12] (some ns) = .nx [a0, a1, V_ .src, V_ (.dct (toK F)), V_ (.dct (toK N)), some (.own (.dct (putD (toK F) (.inr "zz") (.str "later")))), V_ (tre FA B), V_ (.str "b"), a8, a9, V_ d, a11, a12] (some n4) := (set_of (us := [(10, d)]) (R' := some n4) (call_ok' (xs := [.src, .lst (odds FA B)]) (R1 := some ns) (cons_ok rfl (cons_ok al rfl)) rfl e) rfl).trans rfl
  have it : lKi (viewB [a0, a1, V_ .src, V_ (.dct (toK F)), V_ (.dct (toK N)), some (.own (.dct (putD (toK F) (.inr "zz") (.str "later")))), V_ (tre FA B), V_ (.str "b"), a8, a9, V_ d, a11, a12]) (some n4) = some ([.non, .dct (toK F), .str "a", .lst []], some n4) := rfl
  have cm : mComp [11] lKi (gN 11) tYesM (mOwnEq "Tree" mf_Tree___eq__ (mV 6) (mV 11)) (viewB [a0, a1, V_ .src, V_ (.dct (toK F)), V_ (.dct (toK N)), some (.own (.dct (putD (toK F) (.inr "zz") (.str "later")))), V_ (tre FA B), V_ (.str "b"), a8, a9, V_ d, a11, a12]) (some n4) = some (.lst [.bl false, .bl false, .bl false, .bl false], some n4) := by
    refine comp_ok (ds := [.non, .dct (toK F), .str "a", .lst []]) (R1 := some n4) (R2 := some n4) it (comp_map (f := fun _ => .bl false) [.non, .dct (toK F), .str "a", .lst []] fun x hx => ?_) (by decide)
    simp only [List.mem_cons, List.not_mem_nil, or_false] at hx
    rcases hx with rfl | rfl | rfl | rfl
    · exact ownEq_off (d := .non) (R1 := some n4) rfl rfl (by kernel_rfl) (by kernel_rfl)
    · exact ownEq_off (d := .dct (toK F)) (R1 := some n4) rfl rfl (by kernel_rfl) (by kernel_rfl)
    · exact ownEq_off (d := .str "a") (R1 := some n4) rfl rfl (by kernel_rfl) (by kernel_rfl)
    · exact ownEq_off (d := .lst []) (R1 := some n4) rfl rfl (by kernel_rfl) (by kernel_rfl)
  have s2 : lK [a0, a1, V_ .src, V_ (.dct (toK F)), V_ (.dct (toK N)), some (.own (.dct (putD (toK F) (.inr "zz") (.str "later")))), V_ (tre FA B), V_ (.str "b"), a8, a9, V_ d, a11, a12] (some n4) = .nx [a0, a1, V_ .src, V_ (.dct (toK F)), V_ (.dct (toK N)), some (.own (.dct (putD (toK F) (.inr "zz") (.str "later")))), V_ (tre FA B), V_ (.str "b"), a8, a9, V_ d, a11, a12] (some n4) := by
    refine (if_ff (R' := some n4) ?_).trans rfl
    exact or_ff (R1 := some n4) (cmp_ok (x := .bl false) (y := .bl false) (R1 := some n4) (R2 := some n4) (ownIn_ok (d := d) (R1 := some n4) rfl rfl (odd_off t.ga B hm (some n4))) rfl rfl) (tru_ok' (x := .bl false) (fun_okD (cons_ok (fz_ok cm rfl) rfl) rfl) rfl)
  obtain ⟨VA, VB, eV, v, _⟩ := tr_of (gf_rev hF) (some n4)
  obtain ⟨XA, XB, eX, x, _⟩ := tr_of hF (some n4)
  have sr : SameM FA VA := t.sm.trans (SameM.trans (fun f => by rw [List.mem_reverse]) v.sm.symm)
  have sx : SameM FA XA := t.sm.trans x.sm.symm
  have s3 : lL [a0, a1, V_ .src, V_ (.dct (toK F)), V_ (.dct (toK N)), some (.own (.dct (putD (toK F) (.inr "zz") (.str "later")))), V_ (tre FA B), V_ (.str "b"), a8, a9, V_ d, a11, a12] (some n4) = .nx [a0, a1, V_ .src, V_ (.dct (toK F)), V_ (.dct (toK N)), some (.own (.dct (putD (toK F) (.inr "zz") (.str "later")))), V_ (tre FA B), V_ (.str "b"), a8, a9, V_ d, a11, a12] (some n4) := by
    refine (if_ff (R' := some n4) ?_).trans rfl
    exact or_ff (R1 := some n4) (not_ok' (b := true) (ownEqT_b (R1 := some n4) rfl (mkT_ok (F := F.reverse) (fz_ok (ob := .dct (toK F.reverse)) (rev_ok hF rfl (some n4)) rfl) eV) (eq_same t.ga v.ga sr))) (ownNeT_b (b := true) (R1 := some n4) rfl (mkT_ok (F := F) rfl eX) (eq_same t.ga x.ga sx))
  exact (seq_nx s1).trans ((seq_nx s2).trans (seq_nx s3))
theorem bent_ok {F FA N : FF} {B : List (Key × D)} (t : Tr F FA B) (z : Zf F) (f7 : F.length ≤ 7) (ns : List Int) (hd : DrawsOk ns) (a0 a1 a8 a9 a10 a11 a12 : Option Sv) : ∃ (l : List Str) (n5 : List Int), mSeq lM (mSeq lN (mSeq lO (mFrz 12 lP))) [a0, a1, V_ .src, V_ (.dct (toK F)), V_ (.dct (toK N)), some (.own (.dct (putD (toK F) (.inr "zz") (.str "later")))), V_ (tre FA B), V_ (.str "b"), a8, a9, a10, a11, a12] (some ns) = .nx [a0, a1, V_ .src, V_ (.dct (toK F)), V_ (.dct (toK N)), some (.own (.dct (putD (toK F) (.inr "zz") (.str "later")))), V_ (tre FA B), V_ (.str (J l)), a8, a9, a10, a11, V_ (.dct (toK (putF F l "bent")))] (some n5) := by
  have hF := t.gf
  have kl := keys_len hF
  obtain ⟨d, n5, e, hm, d5⟩ := pick ns hd ((srt (keysJ F) ++ (["zz"] : List Str)).map D.str) (by simp) (by rw [List.length_map, List.length_append, srt_len, List.length_singleton]; omega)
  obtain ⟨s, hs, rfl⟩ := List.mem_map.mp hm
  obtain ⟨l, rfl, gl, l3, rm⟩ := bent_path hF z hs
  refine ⟨l, n5, ?_⟩
  have al : mOp addD (mFz (mFunO sortO (mCons (mV 3) (fun _ => pure [])))) (mLst (mCons (mC (.str "zz")) (fun _ => pure []))) (viewA [a0, a1, V_ .src, V_ (.dct (toK F)), V_ (.dct (toK N)), some (.own (.dct (putD (toK F) (.inr "zz") (.str "later")))), V_ (tre FA B), V_ (.str "b"), a8, a9, a10, a11, a12]) (some ns) = some (.lst ((srt (keysJ F) ++ (["zz"] : List Str)).map D.str), some ns) := by
    refine op_ok (x := .lst ((srt (keysJ F)).map D.str)) (y := .lst [.str "zz"]) (R1 := some ns) (R2 := some ns) (fz_ok (ob := .lst ((srt (keysJ F)).map D.str)) (funO_okD (xs := [.dct (toK F)]) (R1 := some ns) (cons_ok rfl rfl) (sort_dct (by have := hF.few; omega))) rfl) rfl ?_
    rw [add_lst (by rw [List.length_map, srt_len, List.length_singleton]; omega), List.map_append]
    rfl
  have s1 : lM [a0, a1, V_ .src, V_ (.dct (toK F)), V_ (.dct (toK N)), some (.own (.dct (putD (toK F) (.inr "zz") (.str "later")))), V_ (tre FA B), V_ (.str "b"), a8, a9, a10, a11, a12] (some ns) = .nx [a0, a1, V_ .src, V_ (.dct (toK F)), V_ (.dct (toK N)), some (.own (.dct (putD (toK F) (.inr "zz") (.str "later")))), V_ (tre FA B), V_ (.str (J l)), a8, a9, a10, a11, a12] (some n5) := (set_of (us := [(7, .str (J l))]) (R' := some n5) (call_ok' (xs := [.src, .lst ((srt (keysJ F) ++ (["zz"] : List Str)).map D.str)]) (R1 := some ns) (cons_ok rfl (cons_ok al rfl)) rfl e) rfl).trans rfl
  have s2 : lN [a0, a1, V_ .src, V_ (.dct (toK F)), V_ (.dct (toK N)), some (.own (.dct (putD (toK F) (.inr "zz") (.str "later")))), V_ (tre FA B), V_ (.str (J l)), a8, a9, a10, a11, a12] (some n5) = .nx [a0, a1, V_ .src, V_ (.dct (toK F)), V_ (.dct (toK N)), some (.own (.dct (putD (toK F) (.inr "zz") (.str "later")))), V_ (tre FA B), V_ (.str (J l)), a8, a9, a10, a11, some (.own (.dct (toK F)))] (some n5) := (new_of (ob := .dct (toK F)) (R' := some n5) (funO_okD (xs := [.dct (toK F)]) (R1 := some n5) (cons_ok rfl rfl) (dict_dct _))).trans rfl
  have s3 : lO [a0, a1, V_ .src, V_ (.dct (toK F)), V_ (.dct (toK N)), some (.own (.dct (putD (toK F) (.inr "zz") (.str "later")))), V_ (tre FA B), V_ (.str (J l)), a8, a9, a10, a11, some (.own (.dct (toK F)))] (some n5) = .nx [a0, a1, V_ .src, V_ (.dct (toK F)), V_ (.dct (toK N)), some (.own (.dct (putD (toK F) (.inr "zz") (.str "later")))), V_ (tre FA B), V_ (.str (J l)), a8, a9, a10, a11, some (.own (.dct (toK (putF F l "bent"))))] (some n5) := by
    rw [← put_toK hF.gp gl "bent"]
    exact (put_ok2 (d := .str "bent") (k := .inr (J l)) (kd := .str (J l)) (R1 := some n5) (R2 := some n5) (kvs := toK F) rfl rfl rfl rfl (by rw [toK_len]; omega)).trans rfl
  have hN := hF.put gl l3 "bent" (by omega) rm
  obtain ⟨NA, NB, eN, u, _⟩ := tr_of hN (some n5)
  have ne := bent_unlike hF z t.sm t.ga hN u.ga u.sm
  have s4 : mFrz 12 lP [a0, a1, V_ .src, V_ (.dct (toK F)), V_ (.dct (toK N)), some (.own (.dct (putD (toK F) (.inr "zz") (.str "later")))), V_ (tre FA B), V_ (.str (J l)), a8, a9, a10, a11, some (.own (.dct (toK (putF F l "bent"))))] (some n5) = .nx [a0, a1, V_ .src, V_ (.dct (toK F)), V_ (.dct (toK N)), some (.own (.dct (putD (toK F) (.inr "zz") (.str "later")))), V_ (tre FA B), V_ (.str (J l)), a8, a9, a10, a11, V_ (.dct (toK (putF F l "bent")))] (some n5) := by
    show lP [a0, a1, V_ .src, V_ (.dct (toK F)), V_ (.dct (toK N)), some (.own (.dct (putD (toK F) (.inr "zz") (.str "later")))), V_ (tre FA B), V_ (.str (J l)), a8, a9, a10, a11, V_ (.dct (toK (putF F l "bent")))] (some n5) = _
    refine (if_ff (R' := some n5) ?_).trans rfl
    exact or_ff (R1 := some n5) (ownEqT_b (b := false) (R1 := some n5) rfl (mkT_ok (F := putF F l "bent") rfl eN) ne) (not_ok' (b := true) (ownNeT_b (b := false) (R1 := some n5) rfl (mkT_ok (F := putF F l "bent") rfl eN) ne))
  exact (seq_nx s1).trans ((seq_nx s2).trans ((seq_nx s3).trans s4))
end K2
set_option Elab.async false
set_option linter.all false
set_option maxRecDepth 100000
set_option maxHeartbeats 1000000
namespace K2
open PySem PySem.Spec PyProof.Rows L2 Nb RZ
theorem seq_to {m1 m2 : MS} {τ τ' : TauS} {R R' : Sr} {o : Out} (h : m1 τ R = .nx τ' R') (k : m2 τ' R' = o) : mSeq m1 m2 τ R = o := (seq_nx h).trans k
theorem rest_turn (ns : List Int) (hd : DrawsOk ns) (a0 a1 a3 a4 a5 a6 a7 a8 a9 a10 a11 a12 : Option Sv) : ∃ (r : TauS) (es : List Int), r.length = 12 ∧ lRest [a0, a1, V_ .src, a3, a4, a5, a6, a7, a8, a9, a10, a11, a12] (some ns) = .nx (a0 :: r) (some es) := by
  obtain ⟨F, FA, N, B, n2, z, f7, f4, hN, t, d2, q1⟩ := first_half ns hd a0 a1 a3 a4 a5 a6 a7 a8 a9 a10 a11 a12
  obtain ⟨n3, d3, q2⟩ := paths_ok (N := N) t n2 d2 a0 a1 a7 a8 a9 a10 a11 a12
  obtain ⟨d, n4, d4, q4⟩ := odd_ok (N := N) t n3 d3 a0 a1 (V_ (.dct (toK (restF F N)))) (V_ (.dct (toK (F ++ restF F N)))) a10 a11 a12
  obtain ⟨l, n5, q5⟩ := bent_ok (N := N) t z f7 n4 d4 a0 a1 (V_ (.dct (toK (restF F N)))) (V_ (.dct (toK (F ++ restF F N)))) (V_ d) a11 a12
  refine ⟨_, n5, ?_, (q1 _).trans (seq_to q2 ((joined_ok t hN (by omega) a0 a1 a8 a9 a10 a11 a12 (some n3) _).trans ((q4 _).trans q5)))⟩
  rfl
theorem wipe_len (τ : TauS) : (wipeS τ).length = τ.length := by unfold wipeS; rw [List.length_map]
theorem turn_ok {ns : List Int} {a2 a3 a4 a5 a6 a7 a8 a9 a10 a11 a12 : Option Sv} (n : Nat) : ∃ r : TauS, r.length = 12 ∧ tTurn [V_ (.scr ns), V_ (.int n), a2, a3, a4, a5, a6, a7, a8, a9, a10, a11, a12] none = .nx (V_ (.scr ns) :: r) none := by
  obtain ⟨a, b, c, e, ok⟩ := source ns n
  have f0 : tNew [V_ (.scr ns), V_ (.int n), a2, a3, a4, a5, a6, a7, a8, a9, a10, a11, a12] none = .nx [V_ (.scr ns), V_ (.int n), some (.own (.lst [.int a, .int b, .int c])), a3, a4, a5, a6, a7, a8, a9, a10, a11, a12] none := by
    have e' : evP (mCallO 2 [] mf_law_source (mCons (mV 0) (mCons (mV 1) (fun _ => pure [])))) [V_ (.scr ns), V_ (.int n), a2, a3, a4, a5, a6, a7, a8, a9, a10, a11, a12] none = some (.lst [.int a, .int b, .int c], none) := e
    unfold tNew mNew
    rw [e']
    rfl
  obtain ⟨r, es, hr, h⟩ := rest_turn [a, b, c] ok (V_ (.scr ns)) (V_ (.int n)) a3 a4 a5 a6 a7 a8 a9 a10 a11 a12
  refine ⟨wipeS r, by rw [wipe_len]; exact hr, ?_⟩
  refine (seq_nx f0).trans ?_
  show outSrc (lRest [V_ (.scr ns), V_ (.int n), V_ .src, a3, a4, a5, a6, a7, a8, a9, a10, a11, a12] (some [a, b, c])) = _
  rw [h]
  rfl
theorem turns_ok (ns : List Int) : ∀ (ks : List Nat) (r : TauS), r.length = 12 → ∃ r' : TauS, r'.length = 12 ∧ loopS (gN 1) tTurn (ks.map fun k : Nat => D.int (0 + (k : Int))) (V_ (.scr ns) :: r) none = .nx (V_ (.scr ns) :: r') none
  | [], r, h => ⟨r, h, rfl⟩
  | k :: ks, r, h => by
    match r, h with
    | [a1, a2, a3, a4, a5, a6, a7, a8, a9, a10, a11, a12], _ =>
      obtain ⟨r1, h1, e1⟩ := turn_ok (ns := ns) (a2 := a2) (a3 := a3) (a4 := a4) (a5 := a5) (a6 := a6) (a7 := a7) (a8 := a8) (a9 := a9) (a10 := a10) (a11 := a11) (a12 := a12) k
      obtain ⟨r2, h2, e2⟩ := turns_ok ns ks r1 h1
      refine ⟨r2, h2, ?_⟩
      rw [List.map_cons, Int.zero_add]
      exact (loop_nx (us := [(1, .int k)]) (τ1 := [V_ (.scr ns), V_ (.int k), a2, a3, a4, a5, a6, a7, a8, a9, a10, a11, a12]) rfl rfl e1).trans e2
theorem range_ok (ns : List Int) (h : ns.length ≤ 63) (r : TauS) : ∃ n : Nat, tTurns (viewA (V_ (.scr ns) :: r)) none = some (rngD 0 n, none) := by
  by_cases h3 : (5 : Int) < ns.length
  · refine ⟨10, ?_⟩
    have h3' : 5 < ns.length := by omega
    simp [tTurns, mFunI, mCons, mOp, mC, mFun, mV, viewA, lenD, orL, lenV, min2, h3, bind, M.bind, pure, M.pure, opt, addD, orF, addI, rngF1]
  · refine ⟨5 + ns.length, ?_⟩
    have h3' : ¬ 5 < ns.length := by omega
    have g' : (-4611686018427387904 : Int) ≤ 5 + ns.length ∧ (5 : Int) + ns.length < 4611686018427387904 := by omega
    have e : ((5 : Int) + ns.length).toNat = 5 + ns.length := by omega
    simp [tTurns, mFunI, mCons, mOp, mC, mFun, mV, viewA, lenD, orL, lenV, min2, h3, bind, M.bind, pure, M.pure, opt, addD, orF, addI, rngF1, g', e]
theorem law_true (ns : List Int) (h : ns.length ≤ 63) : ∃ R, mf_law [.scr ns] none = some (.bl true, R) := by
  refine ⟨none, ?_⟩
  have e0 : startD 13 [.scr ns] = V_ (.scr ns) :: List.replicate 12 none := rfl
  unfold mf_law mDef
  rw [e0, mb_law_eq]
  obtain ⟨n, hn⟩ := range_ok ns h (List.replicate 12 none)
  obtain ⟨r, hr, e⟩ := turns_ok ns (List.range n) (List.replicate 12 none) (by simp)
  have f : mFor tTurns (gN 1) tTurn (V_ (.scr ns) :: List.replicate 12 none) none = .nx (V_ (.scr ns) :: r) none := (for_of hn).trans e
  rw [seq_nx f]
  rfl
end K2
set_option Elab.async false
set_option linter.all false
set_option maxRecDepth 100000
set_option maxHeartbeats 4000000
namespace K2
open PySem PySem.Spec PyProof.Rows L2 Nb RZ
set_option maxHeartbeats 0 in
theorem facts {P : Program} {w : World} {K : PySem.W.Frag} {h : Heap} {mg : Str → Option Value} {f : Addr} (X : K.In h) (G0 : h.Ns mainGlobals mg) (hfa : mg ("law" : Str) = some (.ref f)) (c : SaysX chk fnl K) :
    ∃ (fd : FuncData) (sp : Sp), (∀ (s : Shared) (v : Value), BindsTo s fd ⟨[v], []⟩ [("script", v)]) ∧ (∀ (H : Hp) (a : Addr) (ns : List Int), ns.length ≤ 63 → Only H → SqL K H a (ns.map V.int) → sp [.ref a] H (fun v _ => v = .bl true) fun _ _ _ => False) ∧
      ∀ base : Heap, K.In base → base.Ns mainGlobals mg → FnOk P w K mg base CX0 7 f fd ["script"] sp := by
  have z := c.look
  unfold chk at z
  obtain ⟨zc0, z⟩ := He.ba z
  obtain ⟨zi0, z⟩ := He.ba z
  obtain ⟨zq0, z⟩ := He.ba z
  obtain ⟨kn0, ko0, kj0, ks0⟩ := opsB_ok zq0
  obtain ⟨ze0, z⟩ := He.ba z
  obtain ⟨ze1, z⟩ := He.ba z
  obtain ⟨ze2, z⟩ := He.ba z
  obtain ⟨ze3, z⟩ := He.ba z
  obtain ⟨ze4, z⟩ := He.ba z
  obtain ⟨ze5, z⟩ := He.ba z
  obtain ⟨ze6, z⟩ := He.ba z
  obtain ⟨zn0, z⟩ := He.ba z
  obtain ⟨zf, zg⟩ := He.ba z
  have free : ∀ x, x ∈ frees → mg x = none := fun x hx => He.free_ok X G0 (List.all_eq_true.mp zf x hx)
  have glo : ∀ x, x ∈ glos → mg x = some (.ref (He.ga K x)) := fun x hx => He.glo_ok X G0 (List.all_eq_true.mp zg x hx)
  have e := hfa.symm.trans (glo "law" (by decide +kernel))
  cases e
  let G : Gx := ⟨K, He.ga K, (fun c => if c = ("Tree" : Str) then [("_files" : Str), ("_folders" : Str)] else [])⟩
  have hfl0 : G.fl ("Tree" : Str) = [("_files" : Str), ("_folders" : Str)] := (show (if ("Tree" : Str) = ("Tree" : Str) then [("_files" : Str), ("_folders" : Str)] else []) = _ from if_pos rfl)
  obtain ⟨kc0, km0⟩ := clsB_ok (G := G) rfl hfl0 (by decide +kernel) zc0
  have T : Tx K mg G := { i_Tree := insB_ok kc0.cl zi0, n_Tree := kn0, o_Tree := ko0, j_Tree := kj0, s_Tree := ks0, hK := rfl, z_bool := free "bool" (by decide +kernel), z_list := free "list" (by decide +kernel), z_tuple := free "tuple" (by decide +kernel), z_str := free "str" (by decide +kernel), z_int := free "int" (by decide +kernel), z_dict := free "dict" (by decide +kernel), z_len := free "len" (by decide +kernel), z_isinstance := free "isinstance" (by decide +kernel), z_all := free "all" (by decide +kernel), z_any := free "any" (by decide +kernel), z_min := free "min" (by decide +kernel), z_sorted := free "sorted" (by decide +kernel), z_range := free "range" (by decide +kernel), z_enumerate := free "enumerate" (by decide +kernel), z_zip := free "zip" (by decide +kernel), z_set := free "set" (by decide +kernel), g_Tree := clsB_glo X G0 zc0, k_Tree := kc0, kg_Tree := kc0, fl_Tree := hfl0, f_Tree_0 := by rw [hfl0]; rfl, f_Tree_1 := by rw [hfl0]; rfl, c_LONGEST_NAME := He.int_ok X G0 zn0 }
  obtain ⟨fd_is_path_text, FD_is_path_text⟩ := c.def_ 0 (d := dMod ("is_path_text" : Str) (topS 8)) rfl
  have F_is_path_text : FunG K "is_path_text" "is_path_text" s_is_path_text _ _ := FunD.toG FD_is_path_text
  have b_is_path_text := FunD.bindsN (ps := ["text"]) FD_is_path_text fun _ _ _ _ _ _ us hl => match us, hl with | [_], _ => rfl
  obtain ⟨fd_is_path, FD_is_path⟩ := c.def_ 1 (d := dMod ("is_path" : Str) (topS 7)) rfl
  have F_is_path : FunG K "is_path" "is_path" s_is_path _ _ := FunD.toG FD_is_path
  have b_is_path := FunD.bindsN (ps := ["thing"]) FD_is_path fun _ _ _ _ _ _ us hl => match us, hl with | [_], _ => rfl
  obtain ⟨fd_is_beneath, FD_is_beneath⟩ := c.def_ 2 (d := dMod ("is_beneath" : Str) (topS 9)) rfl
  have F_is_beneath : FunG K "is_beneath" "is_beneath" s_is_beneath _ _ := FunD.toG FD_is_beneath
  have b_is_beneath := FunD.bindsN (ps := ["path", "other"]) FD_is_beneath fun _ _ _ _ _ _ us hl => match us, hl with | [_, _], _ => rfl
  obtain ⟨fd_is_kin, FD_is_kin⟩ := c.def_ 3 (d := dMod ("is_kin" : Str) (topS 10)) rfl
  have F_is_kin : FunG K "is_kin" "is_kin" s_is_kin _ _ := FunD.toG FD_is_kin
  have b_is_kin := FunD.bindsN (ps := ["one", "other"]) FD_is_kin fun _ _ _ _ _ _ us hl => match us, hl with | [_, _], _ => rfl
  obtain ⟨fd_first_of, FD_first_of⟩ := c.def_ 4 (d := dMod ("first_of" : Str) (topS 11)) rfl
  have F_first_of : FunG K "first_of" "first_of" s_first_of _ _ := FunD.toG FD_first_of
  have b_first_of := FunD.bindsN (ps := ["path"]) FD_first_of fun _ _ _ _ _ _ us hl => match us, hl with | [_], _ => rfl
  obtain ⟨fd_folders_above, FD_folders_above⟩ := c.def_ 5 (d := dMod ("folders_above" : Str) (topS 15)) rfl
  have F_folders_above : FunG K "folders_above" "folders_above" s_folders_above _ _ := FunD.toG FD_folders_above
  have b_folders_above := FunD.bindsN (ps := ["path"]) FD_folders_above fun _ _ _ _ _ _ us hl => match us, hl with | [_], _ => rfl
  obtain ⟨fd_checked_files, FD_checked_files⟩ := c.def_ 6 (d := dMod ("checked_files" : Str) (topS 14)) rfl
  have F_checked_files : FunG K "checked_files" "checked_files" s_checked_files _ _ := FunD.toG FD_checked_files
  have b_checked_files := FunD.bindsN (ps := ["files"]) FD_checked_files fun _ _ _ _ _ _ us hl => match us, hl with | [_], _ => rfl
  obtain ⟨fd_folders_of, FD_folders_of⟩ := c.def_ 7 (d := dMod ("folders_of" : Str) (topS 16)) rfl
  have F_folders_of : FunG K "folders_of" "folders_of" s_folders_of _ _ := FunD.toG FD_folders_of
  have b_folders_of := FunD.bindsN (ps := ["files"]) FD_folders_of fun _ _ _ _ _ _ us hl => match us, hl with | [_], _ => rfl
  obtain ⟨fd_Tree_init, FD_Tree_init⟩ := c.def_ 8 (d := (⟨(("Tree" : Str), some ("__init__" : Str)), ("__init__" : Str), ("Tree.__init__" : Str), defArgs (inClass (topS 13) 0), defBody (inClass (topS 13) 0), defScope (inClass (topS 13) 0), [.non], []⟩ : He.DefD)) rfl
  have F_Tree_init : FunG K "__init__" "Tree.__init__" s_Tree_init _ _ := FunD.toGd FD_Tree_init
  obtain ⟨ds_Tree_init, hv_Tree_init, b_Tree_init⟩ := FD_Tree_init.binds1 (ps := ["self", "files"]) 2 1 (fun z => nomatch z) rfl (fun _ _ _ _ _ _ _ us its hu hi => match us, its, hu, hi with | [_, _], [_], _, _ => ⟨_, rfl, rfl⟩)
  cases hv_Tree_init
  obtain ⟨ds0_Tree_init, hv0_Tree_init, b0_Tree_init⟩ := FD_Tree_init.binds1 (ps := ["self", "files"]) 1 0 (fun z => nomatch z) rfl (fun _ _ _ _ _ _ _ us its hu hi => match us, its, hu, hi with | [_], [_], _, _ => ⟨_, rfl, rfl⟩)
  obtain ⟨fd_Tree_files, FD_Tree_files⟩ := c.def_ 9 (d := (⟨(("Tree" : Str), some ("files" : Str)), ("files" : Str), ("Tree.files" : Str), defArgs (inClass (topS 13) 1), defBody (inClass (topS 13) 1), defScope (inClass (topS 13) 1), [], []⟩ : He.DefD)) rfl
  have F_Tree_files : FunG K "files" "Tree.files" s_Tree_files _ _ := FunD.toG FD_Tree_files
  have b_Tree_files := FunD.bindsN (ps := ["self"]) FD_Tree_files fun _ _ _ _ _ _ us hl => match us, hl with | [_], _ => rfl
  obtain ⟨fd_Tree_part, FD_Tree_part⟩ := c.def_ 10 (d := (⟨(("Tree" : Str), some ("part" : Str)), ("part" : Str), ("Tree.part" : Str), defArgs (inClass (topS 13) 6), defBody (inClass (topS 13) 6), defScope (inClass (topS 13) 6), [], []⟩ : He.DefD)) rfl
  have F_Tree_part : FunG K "part" "Tree.part" s_Tree_part _ _ := FunD.toG FD_Tree_part
  have b_Tree_part := FunD.bindsN (ps := ["self", "path"]) FD_Tree_part fun _ _ _ _ _ _ us hl => match us, hl with | [_, _], _ => rfl
  obtain ⟨fd_Tree_firsts, FD_Tree_firsts⟩ := c.def_ 11 (d := (⟨(("Tree" : Str), some ("firsts" : Str)), ("firsts" : Str), ("Tree.firsts" : Str), defArgs (inClass (topS 13) 7), defBody (inClass (topS 13) 7), defScope (inClass (topS 13) 7), [], []⟩ : He.DefD)) rfl
  have F_Tree_firsts : FunG K "firsts" "Tree.firsts" s_Tree_firsts _ _ := FunD.toG FD_Tree_firsts
  have b_Tree_firsts := FunD.bindsN (ps := ["self"]) FD_Tree_firsts fun _ _ _ _ _ _ us hl => match us, hl with | [_], _ => rfl
  obtain ⟨fd_Tree___or__, FD_Tree___or__⟩ := c.def_ 12 (d := (⟨(("Tree" : Str), some ("__or__" : Str)), ("__or__" : Str), ("Tree.__or__" : Str), defArgs (inClass (topS 13) 8), defBody (inClass (topS 13) 8), defScope (inClass (topS 13) 8), [], []⟩ : He.DefD)) rfl
  have F_Tree___or__ : FunG K "__or__" "Tree.__or__" s_Tree___or__ _ _ := FunD.toG FD_Tree___or__
  have b_Tree___or__ := FunD.bindsN (ps := ["self", "other"]) FD_Tree___or__ fun _ _ _ _ _ _ us hl => match us, hl with | [_, _], _ => rfl
  obtain ⟨fd_Tree___eq__, FD_Tree___eq__⟩ := c.def_ 13 (d := (⟨(("Tree" : Str), some ("__eq__" : Str)), ("__eq__" : Str), ("Tree.__eq__" : Str), defArgs (inClass (topS 13) 9), defBody (inClass (topS 13) 9), defScope (inClass (topS 13) 9), [], []⟩ : He.DefD)) rfl
  have F_Tree___eq__ : FunG K "__eq__" "Tree.__eq__" s_Tree___eq__ _ _ := FunD.toG FD_Tree___eq__
  have b_Tree___eq__ := FunD.bindsN (ps := ["self", "other"]) FD_Tree___eq__ fun _ _ _ _ _ _ us hl => match us, hl with | [_, _], _ => rfl
  obtain ⟨fd_Tree___len__, FD_Tree___len__⟩ := c.def_ 14 (d := (⟨(("Tree" : Str), some ("__len__" : Str)), ("__len__" : Str), ("Tree.__len__" : Str), defArgs (inClass (topS 13) 10), defBody (inClass (topS 13) 10), defScope (inClass (topS 13) 10), [], []⟩ : He.DefD)) rfl
  have F_Tree___len__ : FunG K "__len__" "Tree.__len__" s_Tree___len__ _ _ := FunD.toG FD_Tree___len__
  have b_Tree___len__ := FunD.bindsN (ps := ["self"]) FD_Tree___len__ fun _ _ _ _ _ _ us hl => match us, hl with | [_], _ => rfl
  obtain ⟨fd_Tree___contains__, FD_Tree___contains__⟩ := c.def_ 15 (d := (⟨(("Tree" : Str), some ("__contains__" : Str)), ("__contains__" : Str), ("Tree.__contains__" : Str), defArgs (inClass (topS 13) 11), defBody (inClass (topS 13) 11), defScope (inClass (topS 13) 11), [], []⟩ : He.DefD)) rfl
  have F_Tree___contains__ : FunG K "__contains__" "Tree.__contains__" s_Tree___contains__ _ _ := FunD.toG FD_Tree___contains__
  have b_Tree___contains__ := FunD.bindsN (ps := ["self", "x"]) FD_Tree___contains__ fun _ _ _ _ _ _ us hl => match us, hl with | [_, _], _ => rfl
  obtain ⟨fd_law_source, FD_law_source⟩ := c.def_ 16 (d := dMod ("_law_source" : Str) (topS 18)) rfl
  have F_law_source : FunG K "_law_source" "_law_source" s_law_source _ _ := FunD.toG FD_law_source
  have b_law_source := FunD.bindsN (ps := ["script", "turn"]) FD_law_source fun _ _ _ _ _ _ us hl => match us, hl with | [_, _], _ => rfl
  obtain ⟨fd_law_draw, FD_law_draw⟩ := c.def_ 17 (d := dMod ("_law_draw" : Str) (topS 19)) rfl
  have F_law_draw : FunG K "_law_draw" "_law_draw" s_law_draw _ _ := FunD.toG FD_law_draw
  have b_law_draw := FunD.bindsN (ps := ["draws", "many"]) FD_law_draw fun _ _ _ _ _ _ us hl => match us, hl with | [_, _], _ => rfl
  obtain ⟨fd_law_pick, FD_law_pick⟩ := c.def_ 18 (d := dMod ("_law_pick" : Str) (topS 20)) rfl
  have F_law_pick : FunG K "_law_pick" "_law_pick" s_law_pick _ _ := FunD.toG FD_law_pick
  have b_law_pick := FunD.bindsN (ps := ["draws", "things"]) FD_law_pick fun _ _ _ _ _ _ us hl => match us, hl with | [_, _], _ => rfl
  obtain ⟨fd_law_same, FD_law_same⟩ := c.def_ 19 (d := dMod ("_law_same" : Str) (topS 21)) rfl
  have F_law_same : FunG K "_law_same" "_law_same" s_law_same _ _ := FunD.toG FD_law_same
  have b_law_same := FunD.bindsN (ps := ["found", "due"]) FD_law_same fun _ _ _ _ _ _ us hl => match us, hl with | [_, _], _ => rfl
  obtain ⟨fd_law_is_beneath, FD_law_is_beneath⟩ := c.def_ 20 (d := dMod ("_law_is_beneath" : Str) (topS 22)) rfl
  have F_law_is_beneath : FunG K "_law_is_beneath" "_law_is_beneath" s_law_is_beneath _ _ := FunD.toG FD_law_is_beneath
  have b_law_is_beneath := FunD.bindsN (ps := ["path", "other"]) FD_law_is_beneath fun _ _ _ _ _ _ us hl => match us, hl with | [_, _], _ => rfl
  obtain ⟨fd_law_has_room, FD_law_has_room⟩ := c.def_ 21 (d := dMod ("_law_has_room" : Str) (topS 23)) rfl
  have F_law_has_room : FunG K "_law_has_room" "_law_has_room" s_law_has_room _ _ := FunD.toG FD_law_has_room
  have b_law_has_room := FunD.bindsN (ps := ["files", "path"]) FD_law_has_room fun _ _ _ _ _ _ us hl => match us, hl with | [_, _], _ => rfl
  obtain ⟨fd_law_some_path, FD_law_some_path⟩ := c.def_ 22 (d := dMod ("_law_some_path" : Str) (topS 24)) rfl
  have F_law_some_path : FunG K "_law_some_path" "_law_some_path" s_law_some_path _ _ := FunD.toG FD_law_some_path
  have b_law_some_path := FunD.bindsN (ps := ["draws", "most"]) FD_law_some_path fun _ _ _ _ _ _ us hl => match us, hl with | [_, _], _ => rfl
  obtain ⟨fd_law_some_files, FD_law_some_files⟩ := c.def_ 23 (d := dMod ("_law_some_files" : Str) (topS 25)) rfl
  have F_law_some_files : FunG K "_law_some_files" "_law_some_files" s_law_some_files _ _ := FunD.toG FD_law_some_files
  have b_law_some_files := FunD.bindsN (ps := ["draws", "many"]) FD_law_some_files fun _ _ _ _ _ _ us hl => match us, hl with | [_, _], _ => rfl
  obtain ⟨fd_law_sorted, FD_law_sorted⟩ := c.def_ 24 (d := dMod ("_law_sorted" : Str) (topS 26)) rfl
  have F_law_sorted : FunG K "_law_sorted" "_law_sorted" s_law_sorted _ _ := FunD.toG FD_law_sorted
  have b_law_sorted := FunD.bindsN (ps := ["files"]) FD_law_sorted fun _ _ _ _ _ _ us hl => match us, hl with | [_], _ => rfl
  obtain ⟨fd_law_part, FD_law_part⟩ := c.def_ 25 (d := dMod ("_law_part" : Str) (topS 27)) rfl
  have F_law_part : FunG K "_law_part" "_law_part" s_law_part _ _ := FunD.toG FD_law_part
  have b_law_part := FunD.bindsN (ps := ["files", "path"]) FD_law_part fun _ _ _ _ _ _ us hl => match us, hl with | [_, _], _ => rfl
  obtain ⟨fd_law_is_told, FD_law_is_told⟩ := c.def_ 26 (d := dMod ("_law_is_told" : Str) (topS 28)) rfl
  have F_law_is_told : FunG K "_law_is_told" "_law_is_told" s_law_is_told _ _ := FunD.toG FD_law_is_told
  have b_law_is_told := FunD.bindsN (ps := ["tree", "files"]) FD_law_is_told fun _ _ _ _ _ _ us hl => match us, hl with | [_, _], _ => rfl
  obtain ⟨fd_law, FD_law⟩ := c.def_ 27 (d := dMod ("law" : Str) (topS 29)) rfl
  have F_law : FunG K "law" "law" s_law _ _ := FunD.toG FD_law
  have b_law := FunD.bindsN (ps := ["script"]) FD_law fun _ _ _ _ _ _ us hl => match us, hl with | [_], _ => rfl
  have bl := FunD.bindsA (ps := ["script"]) FD_law fun _ _ _ _ _ _ us hl => match us, hl with | [_], _ => rfl
  refine ⟨fd_law, spM G 1 mf_law, fun s v => bl s [v] rfl, fun H a ns hl _ hS => ?_, fun base _ _ => ?_⟩
  · obtain ⟨R, e⟩ := law_true ns hl
    exact law_sp hS e
  · have U_is_path_text : DefOk P w K mg base G 1 "is_path_text" 1 [] mf_is_path_text := def_ok F_is_path_text sc_is_path_text (glo "is_path_text" (by decide +kernel)) b_is_path_text .nil (fun _ _ _ => by simp only [RepL]) rfl (body_is_path_text T )
    have U_is_path : DefOk P w K mg base G 2 "is_path" 1 [] mf_is_path := def_ok F_is_path sc_is_path (glo "is_path" (by decide +kernel)) b_is_path .nil (fun _ _ _ => by simp only [RepL]) rfl (body_is_path T (U_is_path_text))
    have U_is_beneath : DefOk P w K mg base G 1 "is_beneath" 2 [] mf_is_beneath := def_ok F_is_beneath sc_is_beneath (glo "is_beneath" (by decide +kernel)) b_is_beneath .nil (fun _ _ _ => by simp only [RepL]) rfl (body_is_beneath T )
    have U_is_kin : DefOk P w K mg base G 2 "is_kin" 2 [] mf_is_kin := def_ok F_is_kin sc_is_kin (glo "is_kin" (by decide +kernel)) b_is_kin .nil (fun _ _ _ => by simp only [RepL]) rfl (body_is_kin T (U_is_beneath))
    have U_first_of : DefOk P w K mg base G 1 "first_of" 1 [] mf_first_of := def_ok F_first_of sc_first_of (glo "first_of" (by decide +kernel)) b_first_of .nil (fun _ _ _ => by simp only [RepL]) rfl (body_first_of T )
    have U_folders_above : DefOk P w K mg base G 1 "folders_above" 1 [] mf_folders_above := def_ok F_folders_above sc_folders_above (glo "folders_above" (by decide +kernel)) b_folders_above .nil (fun _ _ _ => by simp only [RepL]) rfl (body_folders_above T )
    have U_checked_files : DefOk P w K mg base G 3 "checked_files" 1 [] mf_checked_files := def_ok F_checked_files sc_checked_files (glo "checked_files" (by decide +kernel)) b_checked_files .nil (fun _ _ _ => by simp only [RepL]) rfl (body_checked_files T (U_folders_above) (U_is_path))
    have U_folders_of : DefOkO P w K mg base G 2 "folders_of" 1 [] mf_folders_of := defO_ok F_folders_of sc_folders_of (glo "folders_of" (by decide +kernel)) b_folders_of .nil (fun _ _ _ => by simp only [RepL]) rfl (body_folders_of T (U_folders_above))
    have U_Tree_init : MakOk P w K mg base G 4 "Tree" 1 [] mf_Tree_init := mak_ok F_Tree_init sc_Tree_init (clsB_glo X G0 zc0) km0 b_Tree_init .nil (fun _ _ _ => by simp only [RepL]) rfl (by decide) (by rw [hfl0]; rfl) (body_Tree_init T (U_checked_files) (U_folders_of))
    have U0_Tree_init : MakOk P w K mg base G 4 "Tree" 1 [.non] mf_Tree_init := mak_ok F_Tree_init sc_Tree_init (clsB_glo X G0 zc0) km0 b0_Tree_init hv0_Tree_init (fun _ _ _ => by simp only [RepL, Rep]; exact ⟨_, _, rfl, rfl, rfl⟩) rfl (by decide) (by rw [hfl0]; rfl) (body_Tree_init T (U_checked_files) (U_folders_of))
    have UN_Tree_init : MakOkN P w K mg base G 4 "Tree" 1 mf_Tree_init := mak_okN F_Tree_init sc_Tree_init (clsB_glo X G0 zc0) km0 b_Tree_init rfl (by decide) (by rw [hfl0]; rfl) (bodyN_Tree_init T (U_checked_files) (U_folders_of))
    have U_Tree_files : MetOkO P w K mg base G 1 "Tree" "files" 1 [] mf_Tree_files := metO_ok F_Tree_files sc_Tree_files (He.meth_ok ze0) (by rw [hfl0]; decide +kernel) b_Tree_files .nil (fun _ _ _ => by simp only [RepL]) rfl (body_Tree_files T )
    have U_Tree_part : MetOk P w K mg base G 6 "Tree" "part" 2 [] mf_Tree_part := met_ok F_Tree_part sc_Tree_part (He.meth_ok ze1) (by rw [hfl0]; decide +kernel) b_Tree_part .nil (fun _ _ _ => by simp only [RepL]) rfl (body_Tree_part T (U_Tree_init) (U_is_path) (U_is_beneath))
    have U_Tree_firsts : MetOkO P w K mg base G 2 "Tree" "firsts" 1 [] mf_Tree_firsts := metO_ok F_Tree_firsts sc_Tree_firsts (He.meth_ok ze2) (by rw [hfl0]; decide +kernel) b_Tree_firsts .nil (fun _ _ _ => by simp only [RepL]) rfl (body_Tree_firsts T (U_first_of))
    have U_Tree___or__ : MetOk P w K mg base G 6 "Tree" "__or__" 2 [] mf_Tree___or__ := met_ok F_Tree___or__ sc_Tree___or__ (He.meth_ok ze3) (by rw [hfl0]; decide +kernel) b_Tree___or__ .nil (fun _ _ _ => by simp only [RepL]) rfl (body_Tree___or__ T (U_Tree_init) (U_is_kin))
    have U_Tree___eq__ : MetOk P w K mg base G 1 "Tree" "__eq__" 2 [] mf_Tree___eq__ := met_ok F_Tree___eq__ sc_Tree___eq__ (He.meth_ok ze4) (by rw [hfl0]; decide +kernel) b_Tree___eq__ .nil (fun _ _ _ => by simp only [RepL]) rfl (body_Tree___eq__ T )
    have U_Tree___len__ : MetOk P w K mg base G 1 "Tree" "__len__" 1 [] mf_Tree___len__ := met_ok F_Tree___len__ sc_Tree___len__ (He.meth_ok ze5) (by rw [hfl0]; decide +kernel) b_Tree___len__ .nil (fun _ _ _ => by simp only [RepL]) rfl (body_Tree___len__ T )
    have U_Tree___contains__ : MetOk P w K mg base G 1 "Tree" "__contains__" 2 [] mf_Tree___contains__ := met_ok F_Tree___contains__ sc_Tree___contains__ (He.meth_ok ze6) (by rw [hfl0]; decide +kernel) b_Tree___contains__ .nil (fun _ _ _ => by simp only [RepL]) rfl (body_Tree___contains__ T )
    have U_law_source : DefOkO P w K mg base G 1 "_law_source" 2 [] mf_law_source := defO_ok F_law_source sc_law_source (glo "_law_source" (by decide +kernel)) b_law_source .nil (fun _ _ _ => by simp only [RepL]) rfl (body_law_source T )
    have U_law_draw : DefOk P w K mg base G 1 "_law_draw" 2 [] mf_law_draw := def_ok F_law_draw sc_law_draw (glo "_law_draw" (by decide +kernel)) b_law_draw .nil (fun _ _ _ => by simp only [RepL]) rfl (body_law_draw T )
    have U_law_pick : DefOk P w K mg base G 2 "_law_pick" 2 [] mf_law_pick := def_ok F_law_pick sc_law_pick (glo "_law_pick" (by decide +kernel)) b_law_pick .nil (fun _ _ _ => by simp only [RepL]) rfl (body_law_pick T (U_law_draw))
    have R0_law_same : DefOk P w K mg base G 0 "_law_same" 2 [] (mr_law_same 0) := DefOk.none_ F_law_same (glo "_law_same" (by decide +kernel)) b_law_same .nil (fun _ _ _ => by simp only [RepL])
    have R1_law_same : DefOk P w K mg base G 1 "_law_same" 2 [] (mr_law_same 1) := def_ok F_law_same sc_law_same (glo "_law_same" (by decide +kernel)) b_law_same .nil (fun _ _ _ => by simp only [RepL]) rfl (body_law_same 0 T  R0_law_same)
    have R2_law_same : DefOk P w K mg base G 2 "_law_same" 2 [] (mr_law_same 2) := def_ok F_law_same sc_law_same (glo "_law_same" (by decide +kernel)) b_law_same .nil (fun _ _ _ => by simp only [RepL]) rfl (body_law_same 1 T  R1_law_same)
    have U_law_same : DefOk P w K mg base G 3 "_law_same" 2 [] (mr_law_same 3) := def_ok F_law_same sc_law_same (glo "_law_same" (by decide +kernel)) b_law_same .nil (fun _ _ _ => by simp only [RepL]) rfl (body_law_same 2 T  R2_law_same)
    have U_law_is_beneath : DefOk P w K mg base G 1 "_law_is_beneath" 2 [] mf_law_is_beneath := def_ok F_law_is_beneath sc_law_is_beneath (glo "_law_is_beneath" (by decide +kernel)) b_law_is_beneath .nil (fun _ _ _ => by simp only [RepL]) rfl (body_law_is_beneath T )
    have U_law_has_room : DefOk P w K mg base G 2 "_law_has_room" 2 [] mf_law_has_room := def_ok F_law_has_room sc_law_has_room (glo "_law_has_room" (by decide +kernel)) b_law_has_room .nil (fun _ _ _ => by simp only [RepL]) rfl (body_law_has_room T (U_law_is_beneath))
    have U_law_some_path : DefOk P w K mg base G 3 "_law_some_path" 2 [] mf_law_some_path := def_ok F_law_some_path sc_law_some_path (glo "_law_some_path" (by decide +kernel)) b_law_some_path .nil (fun _ _ _ => by simp only [RepL]) rfl (body_law_some_path T (U_law_pick) (U_law_draw))
    have U_law_some_files : DefOkO P w K mg base G 4 "_law_some_files" 2 [] mf_law_some_files := defO_ok F_law_some_files sc_law_some_files (glo "_law_some_files" (by decide +kernel)) b_law_some_files .nil (fun _ _ _ => by simp only [RepL]) rfl (body_law_some_files T (U_law_some_path) (U_law_has_room) (U_law_pick))
    have U_law_sorted : DefOkO P w K mg base G 1 "_law_sorted" 1 [] mf_law_sorted := defO_ok F_law_sorted sc_law_sorted (glo "_law_sorted" (by decide +kernel)) b_law_sorted .nil (fun _ _ _ => by simp only [RepL]) rfl (body_law_sorted T )
    have U_law_part : DefOkO P w K mg base G 2 "_law_part" 2 [] mf_law_part := defO_ok F_law_part sc_law_part (glo "_law_part" (by decide +kernel)) b_law_part .nil (fun _ _ _ => by simp only [RepL]) rfl (body_law_part T (U_law_is_beneath))
    have U_law_is_told : DefOk P w K mg base G 4 "_law_is_told" 2 [] mf_law_is_told := def_ok F_law_is_told sc_law_is_told (glo "_law_is_told" (by decide +kernel)) b_law_is_told .nil (fun _ _ _ => by simp only [RepL]) rfl (body_law_is_told T (U_Tree_files) (U_law_same) (U_Tree_firsts) (U_law_sorted) (U_Tree___len__))
    exact fn_val F_law sc_law rfl (body_law T (U_law_source) (U_Tree_init) U0_Tree_init UN_Tree_init (U_law_pick) (U_law_some_files) (U_law_some_path) (U_law_is_told) (U_law_same) (U_Tree_part) (U_law_part) (U_law_has_room) (U_Tree___eq__) (U_Tree___contains__) (U_Tree___or__))
end K2
open PySem PySem.W PySem.Calls PyProof.Rows
set_option maxRecDepth 100000 in
set_option maxHeartbeats 0 in
theorem PySem.Challenge.cw_noteshold_k02_trees_told_holds : PySem.Challenge.rw_noteshold_k02_trees_told.Holds := by
  w_on; o_law
  refine HandSHeadRun.head_any (r := OpenLaw.row PySem.Challenge.rw_noteshold_k02_trees_told) (q := view (OpenLaw.row PySem.Challenge.rw_noteshold_k02_trees_told).prog [29]) (H := K2.hk) (ob := K2.ob) (M := 3000) (loose := K2.loose) (d := HandSHeadRun.topDef (OpenLaw.row PySem.Challenge.rw_noteshold_k02_trees_told).prog 29) (kwd := []) K2.ob_eq
    (by kernel_rfl) (fun s => by kernel_rfl) K2.run (by kernel_rfl) (by kernel_rfl) (by kernel_rfl) (by rfl) (by first | assumption | decide +kernel) (by decide +kernel) ⟨rfl, rfl, rfl, rfl, rfl, by decide +kernel⟩ ?hw ?hc
  case hw => w_witness2
  case hc =>
    refine L2.walk_ofE (l := PySem.Challenge.rw_noteshold_k02_trees_told) (n := 63) (k := 7) (x := "script") (CX := L2.CX0) rfl (by decide) (by kernel_rfl) ⟨rfl, by decide, by decide⟩ ?F (fun _ _ _ _ z => z)
    intro w mg fa h Y G hmg0
    obtain ⟨K, KX, c⟩ := Y
    have hmg : mg ("law" : PySem.Str) = some (.ref fa) := by
      have e : (HandSHeadRun.topDef (OpenLaw.row PySem.Challenge.rw_noteshold_k02_trees_told).prog 29).name = ("law" : PySem.Str) := by kernel_rfl
      rw [← e]
      exact hmg0
    obtain ⟨fd, sp, hb, hsp, hF⟩ := K2.facts (P := (PySem.Challenge.rw_noteshold_k02_trees_told).prog) (w := w) KX G hmg c
    exact ⟨K, fd, sp, KX, hb, hsp, hF⟩
