import PyProof.Rows.All
import Wide.All
import OpenK.AllK
import Wide.FinOn
import PyProof.EqAt
import PyProof.EqKinds
import PyProof.TupleCall
import Open.SpecLaws
import KE.OsGo
import HandS.ForSpec
import HandS.ExcSuper
import HandS.ExcField
import HandS.HeadHook1
import PySem.Challenge.RW_judgedrules_s04_agree
import SwForm
import HandS.Dict
import HandS.Text
import HandS.Comp
import HandS.FStr
import HandS.Iter
import HandS.Walk
import HandS.More
import KE.LtSeq
import SwCheck
import PyProof.TupleKey
import HandS.Zip
import HandS.ListItems
import KE.KDictZip
import HandS.Style
import PyProof.StrLawsIn
import PyYqswja
import HandS.Conv
import HandS.List
import KE.GoesRaise
import HandS.TryMany
import HandS.ExcValue
set_option Elab.async false
set_option linter.all false
section
set_option Elab.async false
set_option linter.all false
set_option maxRecDepth 100000
set_option maxHeartbeats 2000000
/-! An own error over Exception with two fields, which its __init__ stores. Written for spec 167 after skel/42. -/
namespace PySem
namespace FltX
open PySem.W PySem.Calls PyProof.Rows PySem.HandSPX
def iA (n1 n2 : Str) (p1 p2 p3 : Pos) : Arguments := { posonlyargs := [], args := [{ arg := "self", annotation := none, pos := p1 }, { arg := n1, annotation := none, pos := p2 }, { arg := n2, annotation := none, pos := p3 }], vararg := none, kwonlyargs := [], kw_defaults := [], kwarg := none, defaults := [] }
def iB (q1 q2 q3 q4 q5 q6 q7 q8 : Pos) : List Stmt := [.Assign [.Attribute (.Name "self" q1) "kind" q2] (.Name "kind" q3) q4, .Assign [.Attribute (.Name "self" q5) "place" q6] (.Name "place" q7) q8]
def iS : Scope := { kind := .function, names := [(PySem.Str.ofString "self", .local), (PySem.Str.ofString "kind", .local), (PySem.Str.ofString "place", .local)], isGenerator := false, isCoroutine := false, more := [] }
/-- what the written part says of the error's class, at C, and of its __init__, at fI -/
structure FltTxt (K : Frag) (mg : Str → Option Value) (C fI : Addr) : Prop where
  gC : mg "Fault" = some (.ref C)
  cls : ∃ nm q N bs sn sub ab col dd k0 k1 k2 k3 k5, K.lookup C = some (excClassObj nm q C N bs ESX.exTail true sn sub ab col dd k0 k1 k2 k3 k5 "Exception.__new__")
  sa : findIn K (.ref C) "__setattr__" = some (some (.builtin "object.__setattr__"))
  xf : L2.XfC K C
  noK : findIn K (.ref C) "kind" = some none
  noP : findIn K (.ref C) "place" = some none
  iC : findIn K (.ref C) "__init__" = some (some (.ref fI))
  tC : typeIn K (.ref fI) = some (.type "function")
  kC : keepIn K (.ref C) = true
  tyC : typeIn K (.ref C) = some (.type "type")
  te : exmOne K (.ref C) (.ref C) = some true
  fn : ∃ (oc : Value) (od : Option Addr) (doc pm : Value) (an : Option Addr) (cdv ct kV : Value) (osl : Array (Option Value)) (p1 p2 p3 q1 q2 q3 q4 q5 q6 q7 q8 : Pos),
    K.lookup fI = some ⟨oc, od, .func (fnOf "__init__" "Fault.__init__" (iA "kind" "place" p1 p2 p3) (iB q1 q2 q3 q4 q5 q6 q7 q8) iS .none kV doc pm an cdv ct), osl⟩ ∧ codeIn K cdv "Fault.__init__" = true
theorem two_size (v u : Value) : [v, u].length ≤ sizeLine := by
  rw [sizeLine_eq]
  exact (by decide : 2 ≤ 16777216)
theorem ldC {M : Model} {s : Shared} {name : Str} {scope : Scope} {L a : Addr} {cd : Value} {m : Str → Option Value} {x : Str} {pos : Pos} {v : Value} {Q : Value → Shared → Prop} {A : Around} {E : Value → Shared → Prop} (hn : s.heap.Ns L m) (hv : m x = some v) (h : Q v s)
    (hk : scope.kind = .function := by rfl) (hl : (envOfC name scope L a cd).kindOf x = some .local := by rfl) (hd : (x == ("__debug__" : Str)) = false := by decide) :
    wpAny M A (eval (.Name x pos) (envOfC name scope L a cd)) Q E s := wpAny_Name (wpAny_loadName_local hk hl hn hv h) hd
def fields (v u : Value) (y : Str) : Option Value := if y = "place" then some u else if y = "kind" then some v else none
/-- a made error -/
structure Made (h h' : Heap) (e C d : Addr) (v u : Value) : Prop where
  keep : ∀ b o, h.get? b = some o → h'.get? b = some o
  new : h.objs.size ≤ e
  obj : ∃ oe vs, h'.get? e = some oe ∧ oe.cls = .ref C ∧ oe.dict = some d ∧ oe.data = .fields vs ∧ vs[1]? = some .none
  dbig : h.objs.size ≤ d
  dne : d ≠ e
  ns : h'.Ns1 d (fields v u)
/-- what __init__ leaves of a fresh error at x -/
structure InitEnd (h h' : Heap) (x C dx t1 : Addr) (v u : Value) : Prop where
  keep : ∀ b o, b ≠ x → h.get? b = some o → h'.get? b = some o
  obj : h'.get? x = some { cls := .ref C, dict := some dx, data := .fields #[.ref t1, .none, .none, .none, .bool false, .none] }
  dbig : h.objs.size ≤ dx
  dne : dx ≠ x
  ns : h'.Ns1 dx (fields v u)
section
variable {prog : Program} {w : World} {A : Around} {E : Value → Shared → Prop} {R : Result → Shared → Prop} {s : Shared} {K : Frag} {mg : Str → Option Value} {C fI : Addr}
theorem flt_init (T : FltTxt K mg C fI) {x t0 : Addr} {v u : Value} (X : K.In s.heap) (hlim : s.heap.NoLimit) (hx : s.heap.get? x = some (excO C t0)) (hnx : K.lookup x = none) (hroom : A.depth < recursionLimit)
    (hq : ∀ h' tk dx, InitEnd s.heap h' x C dx t0 v u → R (.ok (.ret .none)) { s with heap := h', toks := tk }) :
    codeAny (model prog w) A (.call (.ref fI) ⟨[.ref x, v, u], []⟩) R s := by
  obtain ⟨oc, od, doc, pm, an, cdv, ct, kV, osl, p1, p2, p3, q1, q2, q3, q4, q5, q6, q7, q8, ho, hcd⟩ := T.fn
  obtain ⟨nm, q, N, bs, sn, sub, ab, col, dd, k0, k1, k2, k3, k5, hC⟩ := T.cls
  have hcl : clsIn K C = some { name := nm, bases := bs, mro := .ref C :: ESX.exTail, ns := N, qualname := q, hasDict := true, slotNames := sn, subclasses := sub, abstract := ab, collection := col, hasDel := false } := by unfold clsIn; rw [hC] <;> rfl
  refine Att.call_fn (binds := [("self", .ref x), ("kind", v), ("place", u)]) X hlim ho hcd hroom (BindsTo.of_eq (by first | rfl | with_unfolding_all rfl)) (by first | rfl | decide | with_unfolding_all rfl) (fun s₁ IC => ?_) rfl rfl rfl
  obtain ⟨h₁, tk₁, rfl⟩ := IC.toInCall.same
  have k : ∀ b o, s.heap.get? b = some o → h₁.get? b = some o := IC.toInCall.keep
  have hn := IC.toInCall.ns
  have X₁ : K.In h₁ := X.keeps k
  have hx₁ := k _ _ hx
  -- self.kind = kind
  show wpAny _ _ (execs _ _) _ _ _
  refine wpAny_execs_cons (plainObj_wpAny_Assign_Attribute ?_)
  refine ldC (v := v) hn (by first | rfl | with_unfolding_all rfl | kernel_rfl) (ldC (v := .ref x) hn (by first | rfl | with_unfolding_all rfl | kernel_rfl) ?_)
  refine set_plain X₁ (ox := excO C t0) (od := none) ⟨hx₁, rfl, rfl, trivial⟩ T.sa ?_
  refine ESX.osa_new X₁ hx₁ hcl rfl rfl T.noK (fun h₂ tk₂ dx k₂ dn dne hx₂ hn₂ => ?_)
  have z : s.heap.objs.size < h₁.objs.size := hn.lt
  have xL := Nat.ne_of_gt (Heap.lt_size hx)
  have X₂ : K.In h₂ := fun a o e => k₂ a o (fun y => by rw [y, hnx] at e; cases e) (X₁ a o e)
  obtain ⟨oL, hoL⟩ : ∃ o, h₁.get? s.heap.objs.size = some o := by
    obtain ⟨o, _, _, e, _⟩ := hn
    exact ⟨o, e⟩
  have hn' := hn.at (fun o e => k₂ _ o xL e)
  -- self.place = place
  show wpAny _ _ (execs _ _) _ _ _
  refine wpAny_execs_cons (plainObj_wpAny_Assign_Attribute ?_)
  refine ldC (v := u) hn' (by first | rfl | with_unfolding_all rfl | kernel_rfl) (ldC (v := .ref x) hn' (by first | rfl | with_unfolding_all rfl | kernel_rfl) ?_)
  have w2 : Within (fun y : Str => if y = "kind" then some v else none) ["kind"] := fun y hy => by
    by_cases e : y = "kind"
    · rw [e]; exact List.mem_cons_self ..
    · exact absurd (if_neg e) hy
  obtain ⟨oD, _, _, hoD, _, _⟩ := hn₂.count w2
  refine set_plain X₂ (ox := { cls := .ref C, dict := some dx, data := .fields #[.ref t0, .none, .none, .none, .bool false, .none] }) (od := some oD) ⟨hx₂, rfl, rfl, hoD⟩ T.sa ?_
  refine ESX.osa_old X₂ hx₂ hn₂ w2 (by decide) hcl rfl rfl T.noP (fun h₃ tk₃ k₃ hn₃ => ?_)
  show wpAny _ _ (execs _ _) _ _ _
  refine wpAny_execs_nil (hq h₃ tk₃ dx ⟨fun b o hb e => ?_, k₃ _ _ (Ne.symm dne) hx₂, Nat.le_of_lt (Nat.lt_of_lt_of_le z dn), dne, hn₃⟩)
  have e1 := k b o e
  exact k₃ b o (Nat.ne_of_lt (Nat.lt_of_lt_of_le (Heap.lt_size e1) dn)) (k₂ b o hb e1)
theorem flt_made (T : FltTxt K mg C fI) {v u : Value} (X : K.In s.heap) (hlim : s.heap.NoLimit) (hroom : A.depth + 1 < recursionLimit)
    (hq : ∀ h' tk e d, Made s.heap h' e C d v u → R (.ok (.ret (.ref e))) { s with heap := h', toks := tk }) :
    codeAny (model prog w) A (.call (.ref C) ⟨[v, u], []⟩) R s := by
  obtain ⟨nm, q, N, bs, sn, sub, ab, col, dd, k0, k1, k2, k3, k5, hC⟩ := T.cls
  obtain ⟨hp, g, dr, tk, os⟩ := s
  have k : ∀ b o, hp.get? b = some o → ((hp.push (kdv_tup [v, u])).push (excO C hp.objs.size)).get? b = some o := fun b o e => Heap.get?_push_of_some _ (Heap.get?_push_of_some _ e)
  have hget : ((hp.push (kdv_tup [v, u])).push (excO C hp.objs.size)).get? (hp.objs.size + 1) = some (excO C hp.objs.size) := by heap_get
  have hnx : K.lookup (hp.objs.size + 1) = none := by
    cases e : K.lookup (hp.objs.size + 1) with
    | none => rfl
    | some o =>
      have z : hp.get? (hp.objs.size + 1) = some o := X _ _ e
      exact absurd (Nat.lt_of_succ_lt (Heap.lt_size z)) (Nat.lt_irrefl _)
  refine call_own F.excBase_Exception (fun X => rfl) (X _ _ hC) (looks_findIn X T.iC) (fun self => bind_fn X self T.tC) (two_size v u) ?_
  refine flt_init (s := ⟨(hp.push (kdv_tup [v, u])).push (excO C hp.objs.size), g, dr, tk, os⟩) T (X.keeps k) (hlim.keeps k) hget hnx ?_ fun h' tk' dx ⟨k', hx, dn, dne, hns⟩ => ?_
  · show A.depth + 1 < recursionLimit
    exact hroom
  · have old : ∀ b o, hp.get? b = some o → h'.get? b = some o := fun b o e => k' b o (Nat.ne_of_lt (Nat.lt_succ_of_lt (Heap.lt_size e))) (k b o e)
    have z : hp.objs.size + 1 + 1 ≤ dx := by
      first
        | (simpa only [Heap.size_push] using dn)
        | exact dn
        | (have q := dn; rw [Heap.size_push, Heap.size_push] at q; exact q)
    exact ⟨rfl, hq h' tk' (hp.objs.size + 1) dx ⟨old, Nat.le_succ _, ⟨_, _, hx, rfl, rfl, rfl, rfl⟩, Nat.le_trans (Nat.le_trans (Nat.le_succ _) (Nat.le_succ _)) z, dne, hns⟩⟩
end
end FltX
end PySem
namespace L2
open PySem PySem.Spec PyProof.Rows
/-- the error's own dict -/
def fltD (v u : V) : List (Str × V) := [(("kind" : Str), v), (("place" : Str), u)]
theorem fltD_kind {v u : V} : (fltD v u).lookup ("kind" : Str) = some v := by
  have e : (("kind" : Str) == ("kind" : Str)) = true := beq_self_eq_true _
  simp only [fltD, List.lookup, e]
theorem fltD_place {v u : V} : (fltD v u).lookup ("place" : Str) = some u := by
  have e : (("place" : Str) == ("place" : Str)) = true := beq_self_eq_true _
  have e2 : (("place" : Str) == ("kind" : Str)) = false := by decide +kernel
  simp only [fltD, List.lookup, e, e2]
theorem relO_flt {v u : V} {v' u' : Value} (r : RelV v v') (r2 : RelV u u') (f : Str) : RelO (List.lookup f (fltD v u)) (PySem.FltX.fields v' u' f) := by
  unfold PySem.FltX.fields
  by_cases hp : f = "place"
  · subst hp
    rw [if_pos rfl, fltD_place]
    exact r2
  rw [if_neg hp]
  by_cases hw : f = "kind"
  · subst hw
    rw [if_pos rfl, fltD_kind]
    exact r
  · rw [if_neg hw]
    have qw : (f == ("kind" : Str)) = false := by simpa using hw
    have qp : (f == ("place" : Str)) = false := by simpa using hp
    have q2 : List.lookup f (fltD v u) = none := by simp only [fltD, List.lookup, qw, qp]
    rw [q2]
    trivial
section
variable {X : Cx} {C fI : Addr}
/-- Fault(e, e2) -/
def tMkFlt (C : Addr) (ta : TA) : St → Hp → XK → Prop := fun σ H Q => ta σ H fun vs H1 => ∃ v u, vs = [v, u] ∧ ∀ d, H1 d = none → Q (.ref C) (some d) (upd H1 d (.xd (fltD v u)))
theorem pmk_flt {a b : Expr} {ta : TA} {p pos : Pos} {k : Nat} (T : PySem.FltX.FltTxt X.K X.mg C fI) (hr : Room k X.A) (ha : PA X [a, b] ta) (hg : Gl X "Fault" := by rfl)
    (he : starEach (a :: [b]) X.env = (false, eval a X.env) :: starEach [b] X.env := by rfl) (hpl : (backTo pos (starEach [b] X.env)).any (·.1) = false := by rfl) :
    PMk X (.Call (.Name "Fault" p) [a, b] [] pos) (tMkFlt C ta) := by
  intro pins s σ H Q I h
  refine wpAny_Call_Name_kw (ld_glob I hg T.gC ?_)
  refine PySem.W.callWith_K (h₀ := X.base) I.ok.mod.kin T.kC (thn (ha.run pos pins s σ H _ I h) fun us s1 hh => ?_) he hpl
  obtain ⟨vs, H1, I1, r1, v, u, ev, q1⟩ := hh
  subst ev
  refine ⟨I1.kIn, ?_⟩
  obtain ⟨v', us', rfl, rv, r2⟩ : ∃ v' us', us = v' :: us' ∧ RelV v v' ∧ Vals [u] us' := by cases r1 with | cons r t => exact ⟨_, _, rfl, r, t⟩
  obtain ⟨u', rfl, ru⟩ : ∃ u', us' = [u'] ∧ RelV u u' := by cases r2 with | cons r t => cases t; exact ⟨_, rfl, r⟩
  show wpAny _ _ (call (.ref C) [v', u']) _ _ _
  have hlim := I1.nolimit
  obtain ⟨hp, g, dr, tk, os⟩ := s1
  refine wpAny_call (PySem.FltX.flt_made T I1.kIn hlim (by have := hr.dp; omega) fun h' tk' e d M => ?_)
  show MkP X pins σ Q (.ref e) ⟨h', g, dr, tk', os⟩
  obtain ⟨oe, fv, hoe, hc, hd, hdat, h1⟩ := M.obj
  have hns := M.ns
  obtain ⟨G', g1, g2⟩ := restrict h' fun b => decide (b ≠ e)
  have gk : ∀ b, b ≠ e → G'.get? b = h'.get? b := fun b hb => g1 b (decide_eq_true hb)
  have ge : G'.get? e = none := g2 e (by simp)
  have old : ∀ b o, hp.get? b = some o → G'.get? b = some o := fun b o q => (gk b (Nat.ne_of_lt (Nat.lt_of_lt_of_le (Heap.lt_size q) M.new))).trans (M.keep b o q)
  have ob : ObjOk X.prog X.w (upd H1 d (.xd (fltD v u))) G' d (.xd (fltD v u)) := ⟨_, hns.at (fun o q => (gk d M.dne).trans q), fun f => relO_flt rv ru f⟩
  have J : Inv X pins σ (upd H1 d (.xd (fltD v u))) ⟨G', g, dr, tk', os⟩ := I1.laid (t' := tk') old M.dbig ob
  refine ⟨e, oe, fv, ⟨G', g, dr, tk', os⟩, _, .ref C, some d, rfl, J, fun b o q => ?_, ge, hoe, ⟨hc, hd⟩, hdat, h1, ?_, rfl, I1.bare, raises_own T.xf.exC T.tyC, q1 d (I1.hok.fresh M.dbig)⟩
  · by_cases hb : b = e
    · have q' : G'.get? b = some o := q
      rw [hb, ge] at q'; cases q'
    · exact (gk b hb).symm.trans q
  · rw [upd_ne (Ne.symm M.dne)]
    exact I1.hok.fresh M.new
/-- raise Fault(e, e2) -/
def tRaiseFlt (C : Addr) (W : WX) (ta : TA) : TS := fun _ σ H => tMkFlt C ta σ H fun cls d H' => W cls d σ H'
theorem ps_raiseFlt {a b : Expr} {ta : TA} {W : WX} {p pos pos2 : Pos} {k : Nat} (hc : X.calm = true) (T : PySem.FltX.FltTxt X.K X.mg C fI) (hr : Room k X.A) (tk : Takes X W) (ha : PA X [a, b] ta) (hg : Gl X "Fault" := by rfl)
    (he : starEach (a :: [b]) X.env = (false, eval a X.env) :: starEach [b] X.env := by rfl) (hpl : (backTo pos (starEach [b] X.env)).any (·.1) = false := by rfl) :
    PS X (.Raise (some (.Call (.Name "Fault" p) [a, b] [] pos)) none pos2) (tRaiseFlt C W ta) := ps_raise hc tk (pmk_flt T hr ha hg he hpl)
end
end L2
end
section
set_option Elab.async false
set_option linter.all false
set_option maxRecDepth 100000
namespace Hs
open PySem PySem.Spec PyProof.Rows L2
abbrev P : Program := PySem.Challenge.pw_judgedrules_s04_agree
def top (i : Nat) : Stmt := P.main.body.getD i (.Pass ⟨0, 0, 0, 0⟩)
abbrev s__wall : Stmt := top 0
abbrev s_Fault___init__ : Stmt := inClass (top 3) 0
abbrev s_need : Stmt := top 5
abbrev s_plain_signs : Stmt := top 13
abbrev s_spelled : Stmt := top 14
abbrev s_is_name : Stmt := top 15
abbrev s_is_token : Stmt := top 16
abbrev s_tails_of : Stmt := top 18
abbrev s_second_of_three : Stmt := top 19
abbrev s_second_of_four : Stmt := top 20
abbrev s_broken_at : Stmt := top 21
abbrev s_Raw___init__ : Stmt := inClass (top 34) 0
abbrev s_Reader___init__ : Stmt := inClass (top 35) 0
abbrev s_Reader_take : Stmt := inClass (top 35) 1
abbrev s_Reader_varying : Stmt := inClass (top 35) 2
abbrev s_Reader_begin : Stmt := inClass (top 35) 3
abbrev s_Reader_number_is_below : Stmt := inClass (top 35) 4
abbrev s_Reader_read_text : Stmt := inClass (top 35) 5
abbrev s_Reader_read_name : Stmt := inClass (top 35) 6
abbrev s_read_value : Stmt := top 36
abbrev s_Kinds___init__ : Stmt := inClass (top 40) 0
abbrev s_Kinds_number_of : Stmt := inClass (top 40) 1
abbrev s_Kinds_plain : Stmt := inClass (top 40) 2
abbrev s_Kinds_list_of : Stmt := inClass (top 40) 3
abbrev s_Kinds_record_of : Stmt := inClass (top 40) 4
abbrev s_Kinds_sort_named : Stmt := inClass (top 40) 5
abbrev s_Kinds_sort_of : Stmt := inClass (top 40) 6
abbrev s_Kinds_member_of : Stmt := inClass (top 40) 7
abbrev s_Kinds_field_of : Stmt := inClass (top 40) 8
abbrev s_Kinds_is_row : Stmt := inClass (top 40) 9
abbrev s_Kinds_agree : Stmt := inClass (top 40) 10
abbrev s_Kinds_pairs_within : Stmt := inClass (top 40) 11
abbrev s_Kinds_alike : Stmt := inClass (top 40) 12
abbrev s_Kinds_joined : Stmt := inClass (top 40) 13
abbrev s_read_kind : Stmt := top 42
abbrev s_read_record : Stmt := top 43
abbrev s_all_names : Stmt := top 44
abbrev s_Writer___init__ : Stmt := inClass (top 46) 0
abbrev s_Writer_put_varying : Stmt := inClass (top 46) 1
abbrev s_Writer_put_signs : Stmt := inClass (top 46) 2
abbrev s_Writer_put_number : Stmt := inClass (top 46) 3
abbrev s_Writer_put_text : Stmt := inClass (top 46) 4
abbrev s_Writer_put_list : Stmt := inClass (top 46) 5
abbrev s_Writer_put_record : Stmt := inClass (top 46) 6
abbrev s_kind_told : Stmt := top 48
abbrev s_put_kind : Stmt := top 49
abbrev s_put_sort : Stmt := top 50
abbrev s_agree : Stmt := top 53
abbrev N__wall : List Str := ["k"]
theorem sc__wall : FnScope N__wall ["k"] (defScope s__wall) := ⟨rfl, rfl, rfl, by decide +kernel, rfl, by decide +kernel, by decide +kernel⟩
theorem b__wall {K : PySem.W.Frag} {f : Addr} {fd : FuncData} (F : Fun K "_wall" "_wall" s__wall f fd) : Binds K fd ["k"] [] := F.binds fun _ _ _ _ _ _ us hl => match us, hl with | [_], _ => rfl
abbrev N_Fault___init__ : List Str := ["self", "kind", "place"]
theorem sc_Fault___init__ : FnScope N_Fault___init__ ["self", "kind", "place"] (defScope s_Fault___init__) := ⟨rfl, rfl, rfl, by decide +kernel, rfl, by decide +kernel, by decide +kernel⟩
theorem b_Fault___init__ {K : PySem.W.Frag} {f : Addr} {fd : FuncData} (F : Fun K "__init__" "Fault.__init__" s_Fault___init__ f fd) : Binds K fd ["self", "kind", "place"] [] := F.binds fun _ _ _ _ _ _ us hl => match us, hl with | [_, _, _], _ => rfl
abbrev N_need : List Str := ["good", "place"]
theorem sc_need : FnScope N_need ["good", "place"] (defScope s_need) := ⟨rfl, rfl, rfl, by decide +kernel, rfl, by decide +kernel, by decide +kernel⟩
theorem b_need {K : PySem.W.Frag} {f : Addr} {fd : FuncData} (F : Fun K "need" "need" s_need f fd) : Binds K fd ["good", "place"] [] := F.binds fun _ _ _ _ _ _ us hl => match us, hl with | [_, _], _ => rfl
abbrev N_plain_signs : List Str := ["signs", "sign"]
theorem sc_plain_signs : FnScope N_plain_signs [] (defScope s_plain_signs) := ⟨rfl, rfl, rfl, by decide +kernel, rfl, by decide +kernel, by decide +kernel⟩
theorem b_plain_signs {K : PySem.W.Frag} {f : Addr} {fd : FuncData} (F : Fun K "plain_signs" "plain_signs" s_plain_signs f fd) : Binds K fd [] [] := F.binds fun _ _ _ _ _ _ us hl => match us, hl with | [], _ => rfl
abbrev N_spelled : List Str := ["signs", "codes", "code"]
theorem sc_spelled : FnScope N_spelled ["signs", "codes"] (defScope s_spelled) := ⟨rfl, rfl, rfl, by decide +kernel, rfl, by decide +kernel, by decide +kernel⟩
theorem b_spelled {K : PySem.W.Frag} {f : Addr} {fd : FuncData} (F : Fun K "spelled" "spelled" s_spelled f fd) : Binds K fd ["signs", "codes"] [] := F.binds fun _ _ _ _ _ _ us hl => match us, hl with | [_, _], _ => rfl
abbrev N_is_name : List Str := ["text"]
theorem sc_is_name : FnScope N_is_name ["text"] (defScope s_is_name) := ⟨rfl, rfl, rfl, by decide +kernel, rfl, by decide +kernel, by decide +kernel⟩
theorem b_is_name {K : PySem.W.Frag} {f : Addr} {fd : FuncData} (F : Fun K "is_name" "is_name" s_is_name f fd) : Binds K fd ["text"] [] := F.binds fun _ _ _ _ _ _ us hl => match us, hl with | [_], _ => rfl
abbrev N_is_token : List Str := ["text", "first", "further", "sign"]
theorem sc_is_token : FnScope N_is_token ["text", "first", "further"] (defScope s_is_token) := ⟨rfl, rfl, rfl, by decide +kernel, rfl, by decide +kernel, by decide +kernel⟩
theorem b_is_token {K : PySem.W.Frag} {f : Addr} {fd : FuncData} (F : Fun K "is_token" "is_token" s_is_token f fd) : Binds K fd ["text", "first", "further"] [] := F.binds fun _ _ _ _ _ _ us hl => match us, hl with | [_, _, _], _ => rfl
abbrev N_tails_of : List Str := ["lead"]
theorem sc_tails_of : FnScope N_tails_of ["lead"] (defScope s_tails_of) := ⟨rfl, rfl, rfl, by decide +kernel, rfl, by decide +kernel, by decide +kernel⟩
theorem b_tails_of {K : PySem.W.Frag} {f : Addr} {fd : FuncData} (F : Fun K "tails_of" "tails_of" s_tails_of f fd) : Binds K fd ["lead"] [] := F.binds fun _ _ _ _ _ _ us hl => match us, hl with | [_], _ => rfl
abbrev N_second_of_three : List Str := ["lead"]
theorem sc_second_of_three : FnScope N_second_of_three ["lead"] (defScope s_second_of_three) := ⟨rfl, rfl, rfl, by decide +kernel, rfl, by decide +kernel, by decide +kernel⟩
theorem b_second_of_three {K : PySem.W.Frag} {f : Addr} {fd : FuncData} (F : Fun K "second_of_three" "second_of_three" s_second_of_three f fd) : Binds K fd ["lead"] [] := F.binds fun _ _ _ _ _ _ us hl => match us, hl with | [_], _ => rfl
abbrev N_second_of_four : List Str := ["lead"]
theorem sc_second_of_four : FnScope N_second_of_four ["lead"] (defScope s_second_of_four) := ⟨rfl, rfl, rfl, by decide +kernel, rfl, by decide +kernel, by decide +kernel⟩
theorem b_second_of_four {K : PySem.W.Frag} {f : Addr} {fd : FuncData} (F : Fun K "second_of_four" "second_of_four" s_second_of_four f fd) : Binds K fd ["lead"] [] := F.binds fun _ _ _ _ _ _ us hl => match us, hl with | [_], _ => rfl
abbrev N_broken_at : List Str := ["codes", "start", "end", "at", "tails", "low", "high"]
theorem sc_broken_at : FnScope N_broken_at ["codes", "start", "end"] (defScope s_broken_at) := ⟨rfl, rfl, rfl, by decide +kernel, rfl, by decide +kernel, by decide +kernel⟩
theorem b_broken_at {K : PySem.W.Frag} {f : Addr} {fd : FuncData} (F : Fun K "broken_at" "broken_at" s_broken_at f fd) : Binds K fd ["codes", "start", "end"] [] := F.binds fun _ _ _ _ _ _ us hl => match us, hl with | [_, _, _], _ => rfl
abbrev N_Raw___init__ : List Str := ["self", "kind", "place"]
theorem sc_Raw___init__ : FnScope N_Raw___init__ ["self", "kind", "place"] (defScope s_Raw___init__) := ⟨rfl, rfl, rfl, by decide +kernel, rfl, by decide +kernel, by decide +kernel⟩
theorem b_Raw___init__ {K : PySem.W.Frag} {f : Addr} {fd : FuncData} (F : Fun K "__init__" "Raw.__init__" s_Raw___init__ f fd) : Binds K fd ["self", "kind", "place"] [] := F.binds fun _ _ _ _ _ _ us hl => match us, hl with | [_, _, _], _ => rfl
abbrev N_Reader___init__ : List Str := ["self", "codes"]
theorem sc_Reader___init__ : FnScope N_Reader___init__ ["self", "codes"] (defScope s_Reader___init__) := ⟨rfl, rfl, rfl, by decide +kernel, rfl, by decide +kernel, by decide +kernel⟩
theorem b_Reader___init__ {K : PySem.W.Frag} {f : Addr} {fd : FuncData} (F : Fun K "__init__" "Reader.__init__" s_Reader___init__ f fd) : Binds K fd ["self", "codes"] [] := F.binds fun _ _ _ _ _ _ us hl => match us, hl with | [_, _], _ => rfl
abbrev N_Reader_take : List Str := ["self", "count"]
theorem sc_Reader_take : FnScope N_Reader_take ["self", "count"] (defScope s_Reader_take) := ⟨rfl, rfl, rfl, by decide +kernel, rfl, by decide +kernel, by decide +kernel⟩
theorem b_Reader_take {K : PySem.W.Frag} {f : Addr} {fd : FuncData} (F : Fun K "take" "Reader.take" s_Reader_take f fd) : Binds K fd ["self", "count"] [] := F.binds fun _ _ _ _ _ _ us hl => match us, hl with | [_, _], _ => rfl
abbrev N_Reader_varying : List Str := ["self", "start", "number", "turn", "code"]
theorem sc_Reader_varying : FnScope N_Reader_varying ["self"] (defScope s_Reader_varying) := ⟨rfl, rfl, rfl, by decide +kernel, rfl, by decide +kernel, by decide +kernel⟩
theorem b_Reader_varying {K : PySem.W.Frag} {f : Addr} {fd : FuncData} (F : Fun K "varying" "Reader.varying" s_Reader_varying f fd) : Binds K fd ["self"] [] := F.binds fun _ _ _ _ _ _ us hl => match us, hl with | [_], _ => rfl
abbrev N_Reader_begin : List Str := ["self", "level", "place", "kind", "raw"]
theorem sc_Reader_begin : FnScope N_Reader_begin ["self", "level"] (defScope s_Reader_begin) := ⟨rfl, rfl, rfl, by decide +kernel, rfl, by decide +kernel, by decide +kernel⟩
theorem b_Reader_begin {K : PySem.W.Frag} {f : Addr} {fd : FuncData} (F : Fun K "begin" "Reader.begin" s_Reader_begin f fd) : Binds K fd ["self", "level"] [] := F.binds fun _ _ _ _ _ _ us hl => match us, hl with | [_, _], _ => rfl
abbrev N_Reader_number_is_below : List Str := ["self", "place", "size_and_sign", "size", "start"]
theorem sc_Reader_number_is_below : FnScope N_Reader_number_is_below ["self", "place"] (defScope s_Reader_number_is_below) := ⟨rfl, rfl, rfl, by decide +kernel, rfl, by decide +kernel, by decide +kernel⟩
theorem b_Reader_number_is_below {K : PySem.W.Frag} {f : Addr} {fd : FuncData} (F : Fun K "number_is_below" "Reader.number_is_below" s_Reader_number_is_below f fd) : Binds K fd ["self", "place"] [] := F.binds fun _ _ _ _ _ _ us hl => match us, hl with | [_, _], _ => rfl
abbrev N_Reader_read_text : List Str := ["self", "count", "start", "broken"]
theorem sc_Reader_read_text : FnScope N_Reader_read_text ["self", "count"] (defScope s_Reader_read_text) := ⟨rfl, rfl, rfl, by decide +kernel, rfl, by decide +kernel, by decide +kernel⟩
theorem b_Reader_read_text {K : PySem.W.Frag} {f : Addr} {fd : FuncData} (F : Fun K "read_text" "Reader.read_text" s_Reader_read_text f fd) : Binds K fd ["self", "count"] [] := F.binds fun _ _ _ _ _ _ us hl => match us, hl with | [_, _], _ => rfl
abbrev N_Reader_read_name : List Str := ["self", "record", "start", "count", "codes"]
theorem sc_Reader_read_name : FnScope N_Reader_read_name ["self", "record"] (defScope s_Reader_read_name) := ⟨rfl, rfl, rfl, by decide +kernel, rfl, by decide +kernel, by decide +kernel⟩
theorem b_Reader_read_name {K : PySem.W.Frag} {f : Addr} {fd : FuncData} (F : Fun K "read_name" "Reader.read_name" s_Reader_read_name f fd) : Binds K fd ["self", "record"] [] := F.binds fun _ _ _ _ _ _ us hl => match us, hl with | [_, _], _ => rfl
abbrev N_read_value : List Str := ["codes", "reader", "whole", "opened", "current", "member", "outer"]
theorem sc_read_value : FnScope N_read_value ["codes"] (defScope s_read_value) := ⟨rfl, rfl, rfl, by decide +kernel, rfl, by decide +kernel, by decide +kernel⟩
theorem b_read_value {K : PySem.W.Frag} {f : Addr} {fd : FuncData} (F : Fun K "read_value" "read_value" s_read_value f fd) : Binds K fd ["codes"] [] := F.binds fun _ _ _ _ _ _ us hl => match us, hl with | [_], _ => rfl
abbrev N_Kinds___init__ : List Str := ["self", "word"]
theorem sc_Kinds___init__ : FnScope N_Kinds___init__ ["self"] (defScope s_Kinds___init__) := ⟨rfl, rfl, rfl, by decide +kernel, rfl, by decide +kernel, by decide +kernel⟩
theorem b_Kinds___init__ {K : PySem.W.Frag} {f : Addr} {fd : FuncData} (F : Fun K "__init__" "Kinds.__init__" s_Kinds___init__ f fd) : Binds K fd ["self"] [] := F.binds fun _ _ _ _ _ _ us hl => match us, hl with | [_], _ => rfl
abbrev N_Kinds_number_of : List Str := ["self", "form", "names", "parts", "row", "part"]
theorem sc_Kinds_number_of : FnScope N_Kinds_number_of ["self", "form", "names", "parts"] (defScope s_Kinds_number_of) := ⟨rfl, rfl, rfl, by decide +kernel, rfl, by decide +kernel, by decide +kernel⟩
theorem b_Kinds_number_of {K : PySem.W.Frag} {f : Addr} {fd : FuncData} (F : Fun K "number_of" "Kinds.number_of" s_Kinds_number_of f fd) : Binds K fd ["self", "form", "names", "parts"] [] := F.binds fun _ _ _ _ _ _ us hl => match us, hl with | [_, _, _, _], _ => rfl
abbrev N_Kinds_plain : List Str := ["self", "word"]
theorem sc_Kinds_plain : FnScope N_Kinds_plain ["self", "word"] (defScope s_Kinds_plain) := ⟨rfl, rfl, rfl, by decide +kernel, rfl, by decide +kernel, by decide +kernel⟩
theorem b_Kinds_plain {K : PySem.W.Frag} {f : Addr} {fd : FuncData} (F : Fun K "plain" "Kinds.plain" s_Kinds_plain f fd) : Binds K fd ["self", "word"] [] := F.binds fun _ _ _ _ _ _ us hl => match us, hl with | [_, _], _ => rfl
abbrev N_Kinds_list_of : List Str := ["self", "member"]
theorem sc_Kinds_list_of : FnScope N_Kinds_list_of ["self", "member"] (defScope s_Kinds_list_of) := ⟨rfl, rfl, rfl, by decide +kernel, rfl, by decide +kernel, by decide +kernel⟩
theorem b_Kinds_list_of {K : PySem.W.Frag} {f : Addr} {fd : FuncData} (F : Fun K "list_of" "Kinds.list_of" s_Kinds_list_of f fd) : Binds K fd ["self", "member"] [] := F.binds fun _ _ _ _ _ _ us hl => match us, hl with | [_, _], _ => rfl
abbrev N_Kinds_record_of : List Str := ["self", "names", "parts"]
theorem sc_Kinds_record_of : FnScope N_Kinds_record_of ["self", "names", "parts"] (defScope s_Kinds_record_of) := ⟨rfl, rfl, rfl, by decide +kernel, rfl, by decide +kernel, by decide +kernel⟩
theorem b_Kinds_record_of {K : PySem.W.Frag} {f : Addr} {fd : FuncData} (F : Fun K "record_of" "Kinds.record_of" s_Kinds_record_of f fd) : Binds K fd ["self", "names", "parts"] [] := F.binds fun _ _ _ _ _ _ us hl => match us, hl with | [_, _, _], _ => rfl
abbrev N_Kinds_sort_named : List Str := ["self", "home", "name"]
theorem sc_Kinds_sort_named : FnScope N_Kinds_sort_named ["self", "home", "name"] (defScope s_Kinds_sort_named) := ⟨rfl, rfl, rfl, by decide +kernel, rfl, by decide +kernel, by decide +kernel⟩
theorem b_Kinds_sort_named {K : PySem.W.Frag} {f : Addr} {fd : FuncData} (F : Fun K "sort_named" "Kinds.sort_named" s_Kinds_sort_named f fd) : Binds K fd ["self", "home", "name"] [] := F.binds fun _ _ _ _ _ _ us hl => match us, hl with | [_, _, _], _ => rfl
abbrev N_Kinds_sort_of : List Str := ["self", "sort"]
theorem sc_Kinds_sort_of : FnScope N_Kinds_sort_of ["self", "sort"] (defScope s_Kinds_sort_of) := ⟨rfl, rfl, rfl, by decide +kernel, rfl, by decide +kernel, by decide +kernel⟩
theorem b_Kinds_sort_of {K : PySem.W.Frag} {f : Addr} {fd : FuncData} (F : Fun K "sort_of" "Kinds.sort_of" s_Kinds_sort_of f fd) : Binds K fd ["self", "sort"] [] := F.binds fun _ _ _ _ _ _ us hl => match us, hl with | [_, _], _ => rfl
abbrev N_Kinds_member_of : List Str := ["self", "kind"]
theorem sc_Kinds_member_of : FnScope N_Kinds_member_of ["self", "kind"] (defScope s_Kinds_member_of) := ⟨rfl, rfl, rfl, by decide +kernel, rfl, by decide +kernel, by decide +kernel⟩
theorem b_Kinds_member_of {K : PySem.W.Frag} {f : Addr} {fd : FuncData} (F : Fun K "member_of" "Kinds.member_of" s_Kinds_member_of f fd) : Binds K fd ["self", "kind"] [] := F.binds fun _ _ _ _ _ _ us hl => match us, hl with | [_, _], _ => rfl
abbrev N_Kinds_field_of : List Str := ["self", "kind", "name"]
theorem sc_Kinds_field_of : FnScope N_Kinds_field_of ["self", "kind", "name"] (defScope s_Kinds_field_of) := ⟨rfl, rfl, rfl, by decide +kernel, rfl, by decide +kernel, by decide +kernel⟩
theorem b_Kinds_field_of {K : PySem.W.Frag} {f : Addr} {fd : FuncData} (F : Fun K "field_of" "Kinds.field_of" s_Kinds_field_of f fd) : Binds K fd ["self", "kind", "name"] [] := F.binds fun _ _ _ _ _ _ us hl => match us, hl with | [_, _, _], _ => rfl
abbrev N_Kinds_is_row : List Str := ["self", "kind"]
theorem sc_Kinds_is_row : FnScope N_Kinds_is_row ["self", "kind"] (defScope s_Kinds_is_row) := ⟨rfl, rfl, rfl, by decide +kernel, rfl, by decide +kernel, by decide +kernel⟩
theorem b_Kinds_is_row {K : PySem.W.Frag} {f : Addr} {fd : FuncData} (F : Fun K "is_row" "Kinds.is_row" s_Kinds_is_row f fd) : Binds K fd ["self", "kind"] [] := F.binds fun _ _ _ _ _ _ us hl => match us, hl with | [_, _], _ => rfl
abbrev N_Kinds_agree : List Str := ["self", "one", "other", "waiting", "pair", "inner", "both"]
theorem sc_Kinds_agree : FnScope N_Kinds_agree ["self", "one", "other"] (defScope s_Kinds_agree) := ⟨rfl, rfl, rfl, by decide +kernel, rfl, by decide +kernel, by decide +kernel⟩
theorem b_Kinds_agree {K : PySem.W.Frag} {f : Addr} {fd : FuncData} (F : Fun K "agree" "Kinds.agree" s_Kinds_agree f fd) : Binds K fd ["self", "one", "other"] [] := F.binds fun _ _ _ _ _ _ us hl => match us, hl with | [_, _, _], _ => rfl
abbrev N_Kinds_pairs_within : List Str := ["self", "pair", "one", "other", "settled"]
theorem sc_Kinds_pairs_within : FnScope N_Kinds_pairs_within ["self", "pair"] (defScope s_Kinds_pairs_within) := ⟨rfl, rfl, rfl, by decide +kernel, rfl, by decide +kernel, by decide +kernel⟩
theorem b_Kinds_pairs_within {K : PySem.W.Frag} {f : Addr} {fd : FuncData} (F : Fun K "pairs_within" "Kinds.pairs_within" s_Kinds_pairs_within f fd) : Binds K fd ["self", "pair"] [] := F.binds fun _ _ _ _ _ _ us hl => match us, hl with | [_, _], _ => rfl
abbrev N_Kinds_alike : List Str := ["self", "one", "other"]
theorem sc_Kinds_alike : FnScope N_Kinds_alike ["self", "one", "other"] (defScope s_Kinds_alike) := ⟨rfl, rfl, rfl, by decide +kernel, rfl, by decide +kernel, by decide +kernel⟩
theorem b_Kinds_alike {K : PySem.W.Frag} {f : Addr} {fd : FuncData} (F : Fun K "alike" "Kinds.alike" s_Kinds_alike f fd) : Binds K fd ["self", "one", "other"] [] := F.binds fun _ _ _ _ _ _ us hl => match us, hl with | [_, _, _], _ => rfl
abbrev N_Kinds_joined : List Str := ["self", "pair", "one", "other", "pairs", "parts", "form", "names", "old_parts", "both"]
theorem sc_Kinds_joined : FnScope N_Kinds_joined ["self", "pair"] (defScope s_Kinds_joined) := ⟨rfl, rfl, rfl, by decide +kernel, rfl, by decide +kernel, by decide +kernel⟩
theorem b_Kinds_joined {K : PySem.W.Frag} {f : Addr} {fd : FuncData} (F : Fun K "joined" "Kinds.joined" s_Kinds_joined f fd) : Binds K fd ["self", "pair"] [] := F.binds fun _ _ _ _ _ _ us hl => match us, hl with | [_, _], _ => rfl
abbrev N_read_kind : List Str := ["kinds", "raw", "form", "member"]
theorem sc_read_kind : FnScope N_read_kind ["kinds", "raw"] (defScope s_read_kind) := ⟨rfl, rfl, rfl, by decide +kernel, rfl, by decide +kernel, by decide +kernel⟩
theorem b_read_kind {K : PySem.W.Frag} {f : Addr} {fd : FuncData} (F : Fun K "read_kind" "read_kind" s_read_kind f fd) : Binds K fd ["kinds", "raw"] [] := F.binds fun _ _ _ _ _ _ us hl => match us, hl with | [_, _], _ => rfl
abbrev N_read_record : List Str := ["kinds", "raw", "member"]
theorem sc_read_record : FnScope N_read_record ["kinds", "raw"] (defScope s_read_record) := ⟨rfl, rfl, rfl, by decide +kernel, rfl, by decide +kernel, by decide +kernel⟩
theorem b_read_record {K : PySem.W.Frag} {f : Addr} {fd : FuncData} (F : Fun K "read_record" "read_record" s_read_record f fd) : Binds K fd ["kinds", "raw"] [] := F.binds fun _ _ _ _ _ _ us hl => match us, hl with | [_, _], _ => rfl
abbrev N_all_names : List Str := ["texts", "text"]
theorem sc_all_names : FnScope N_all_names ["texts"] (defScope s_all_names) := ⟨rfl, rfl, rfl, by decide +kernel, rfl, by decide +kernel, by decide +kernel⟩
theorem b_all_names {K : PySem.W.Frag} {f : Addr} {fd : FuncData} (F : Fun K "all_names" "all_names" s_all_names f fd) : Binds K fd ["texts"] [] := F.binds fun _ _ _ _ _ _ us hl => match us, hl with | [_], _ => rfl
abbrev N_Writer___init__ : List Str := ["self"]
theorem sc_Writer___init__ : FnScope N_Writer___init__ ["self"] (defScope s_Writer___init__) := ⟨rfl, rfl, rfl, by decide +kernel, rfl, by decide +kernel, by decide +kernel⟩
theorem b_Writer___init__ {K : PySem.W.Frag} {f : Addr} {fd : FuncData} (F : Fun K "__init__" "Writer.__init__" s_Writer___init__ f fd) : Binds K fd ["self"] [] := F.binds fun _ _ _ _ _ _ us hl => match us, hl with | [_], _ => rfl
abbrev N_Writer_put_varying : List Str := ["self", "number"]
theorem sc_Writer_put_varying : FnScope N_Writer_put_varying ["self", "number"] (defScope s_Writer_put_varying) := ⟨rfl, rfl, rfl, by decide +kernel, rfl, by decide +kernel, by decide +kernel⟩
theorem b_Writer_put_varying {K : PySem.W.Frag} {f : Addr} {fd : FuncData} (F : Fun K "put_varying" "Writer.put_varying" s_Writer_put_varying f fd) : Binds K fd ["self", "number"] [] := F.binds fun _ _ _ _ _ _ us hl => match us, hl with | [_, _], _ => rfl
abbrev N_Writer_put_signs : List Str := ["self", "text", "sign"]
theorem sc_Writer_put_signs : FnScope N_Writer_put_signs ["self", "text"] (defScope s_Writer_put_signs) := ⟨rfl, rfl, rfl, by decide +kernel, rfl, by decide +kernel, by decide +kernel⟩
theorem b_Writer_put_signs {K : PySem.W.Frag} {f : Addr} {fd : FuncData} (F : Fun K "put_signs" "Writer.put_signs" s_Writer_put_signs f fd) : Binds K fd ["self", "text"] [] := F.binds fun _ _ _ _ _ _ us hl => match us, hl with | [_, _], _ => rfl
abbrev N_Writer_put_number : List Str := ["self", "number"]
theorem sc_Writer_put_number : FnScope N_Writer_put_number ["self", "number"] (defScope s_Writer_put_number) := ⟨rfl, rfl, rfl, by decide +kernel, rfl, by decide +kernel, by decide +kernel⟩
theorem b_Writer_put_number {K : PySem.W.Frag} {f : Addr} {fd : FuncData} (F : Fun K "put_number" "Writer.put_number" s_Writer_put_number f fd) : Binds K fd ["self", "number"] [] := F.binds fun _ _ _ _ _ _ us hl => match us, hl with | [_, _], _ => rfl
abbrev N_Writer_put_text : List Str := ["self", "text"]
theorem sc_Writer_put_text : FnScope N_Writer_put_text ["self", "text"] (defScope s_Writer_put_text) := ⟨rfl, rfl, rfl, by decide +kernel, rfl, by decide +kernel, by decide +kernel⟩
theorem b_Writer_put_text {K : PySem.W.Frag} {f : Addr} {fd : FuncData} (F : Fun K "put_text" "Writer.put_text" s_Writer_put_text f fd) : Binds K fd ["self", "text"] [] := F.binds fun _ _ _ _ _ _ us hl => match us, hl with | [_, _], _ => rfl
abbrev N_Writer_put_list : List Str := ["self", "size"]
theorem sc_Writer_put_list : FnScope N_Writer_put_list ["self", "size"] (defScope s_Writer_put_list) := ⟨rfl, rfl, rfl, by decide +kernel, rfl, by decide +kernel, by decide +kernel⟩
theorem b_Writer_put_list {K : PySem.W.Frag} {f : Addr} {fd : FuncData} (F : Fun K "put_list" "Writer.put_list" s_Writer_put_list f fd) : Binds K fd ["self", "size"] [] := F.binds fun _ _ _ _ _ _ us hl => match us, hl with | [_, _], _ => rfl
abbrev N_Writer_put_record : List Str := ["self", "size"]
theorem sc_Writer_put_record : FnScope N_Writer_put_record ["self", "size"] (defScope s_Writer_put_record) := ⟨rfl, rfl, rfl, by decide +kernel, rfl, by decide +kernel, by decide +kernel⟩
theorem b_Writer_put_record {K : PySem.W.Frag} {f : Addr} {fd : FuncData} (F : Fun K "put_record" "Writer.put_record" s_Writer_put_record f fd) : Binds K fd ["self", "size"] [] := F.binds fun _ _ _ _ _ _ us hl => match us, hl with | [_, _], _ => rfl
abbrev N_kind_told : List Str := ["kinds", "kind", "writer"]
theorem sc_kind_told : FnScope N_kind_told ["kinds", "kind"] (defScope s_kind_told) := ⟨rfl, rfl, rfl, by decide +kernel, rfl, by decide +kernel, by decide +kernel⟩
theorem b_kind_told {K : PySem.W.Frag} {f : Addr} {fd : FuncData} (F : Fun K "kind_told" "kind_told" s_kind_told f fd) : Binds K fd ["kinds", "kind"] [] := F.binds fun _ _ _ _ _ _ us hl => match us, hl with | [_, _], _ => rfl
abbrev N_put_kind : List Str := ["writer", "kinds", "kind", "waiting", "name", "current", "form", "names", "parts"]
theorem sc_put_kind : FnScope N_put_kind ["writer", "kinds", "kind"] (defScope s_put_kind) := ⟨rfl, rfl, rfl, by decide +kernel, rfl, by decide +kernel, by decide +kernel⟩
theorem b_put_kind {K : PySem.W.Frag} {f : Addr} {fd : FuncData} (F : Fun K "put_kind" "put_kind" s_put_kind f fd) : Binds K fd ["writer", "kinds", "kind"] [] := F.binds fun _ _ _ _ _ _ us hl => match us, hl with | [_, _, _], _ => rfl
abbrev N_put_sort : List Str := ["writer", "names", "name", "text"]
theorem sc_put_sort : FnScope N_put_sort ["writer", "names"] (defScope s_put_sort) := ⟨rfl, rfl, rfl, by decide +kernel, rfl, by decide +kernel, by decide +kernel⟩
theorem b_put_sort {K : PySem.W.Frag} {f : Addr} {fd : FuncData} (F : Fun K "put_sort" "put_sort" s_put_sort f fd) : Binds K fd ["writer", "names"] [] := F.binds fun _ _ _ _ _ _ us hl => match us, hl with | [_, _], _ => rfl
abbrev N_agree : List Str := ["a", "b", "kinds", "values", "one", "other", "agreed", "codes", "value"]
theorem sc_agree : FnScope N_agree ["a", "b"] (defScope s_agree) := ⟨rfl, rfl, rfl, by decide +kernel, rfl, by decide +kernel, by decide +kernel⟩
theorem b_agree {K : PySem.W.Frag} {f : Addr} {fd : FuncData} (F : Fun K "agree" "agree" s_agree f fd) : Binds K fd ["a", "b"] [] := F.binds fun _ _ _ _ _ _ us hl => match us, hl with | [_, _], _ => rfl
/-- the function object at an address -/
def fdA (K : PySem.W.Frag) (a : Addr) : FuncData := match K.lookup a with
  | some ⟨_, _, .func fd, _⟩ => fd
  | _ => { name := "", qualname := "", params := { posonlyargs := [], args := [], vararg := none, kwonlyargs := [], kw_defaults := [], kwarg := none, defaults := [] }, body := .stmts [], scope := { kind := .function, names := [], isGenerator := false, isCoroutine := false }, globals := 0, closure := [], defaults := .none, kwdefaults := .none, pyModule := .none, code := .none }
abbrev ga (K : PySem.W.Frag) (x : Str) : Addr := He.ga K x
abbrev ma (K : PySem.W.Frag) (C m : Str) : Addr := He.ma K (He.ga K C) m
/-- a def of the top -/
structure FnT (K : PySem.W.Frag) (mg : Str → Option Value) (x : Str) (st : Stmt) : Prop where
  g : mg x = some (.ref (ga K x))
  f : Fun K x x st (ga K x) (fdA K (ga K x))
theorem FnT.kp {K : PySem.W.Frag} {mg : Str → Option Value} {x : Str} {st : Stmt} (T : FnT K mg x st) : PySem.W.keepIn K (.ref (ga K x)) = true := T.f.kp
/-- a method -/
structure MeT (K : PySem.W.Frag) (C m q : Str) (st : Stmt) : Prop where
  me : Meth K (ga K C) m (ma K C m)
  f : Fun K m q st (ma K C m) (fdA K (ma K C m))
/-- a class whose instances are made -/
structure ClT (K : PySem.W.Frag) (mg : Str → Option Value) (C : Str) : Prop where
  g : mg C = some (.ref (ga K C))
  cl : Cls K (ga K C)
  mkr : Mk K (ga K C) (ma K C "__init__")
/-- a name of the top that stands for a number -/
def IntT (mg : Str → Option Value) (x : Str) (i : Int) : Prop := ∃ t, mg x = some (.int i t)
def StrT (mg : Str → Option Value) (x z : Str) : Prop := ∃ t, mg x = some (.str z t)
/-- the mark of a number's name -/
theorem pe_intT {X : Cx} {x : Str} {i : Int} {pos : Pos} (T : IntT X.mg x i) (hg : Gl X x := by rfl) (hd : (x == ("__debug__" : Str)) = false := by decide) : PE X (.Name x pos) (tC (.int i)) := by
  obtain ⟨t, e⟩ := T
  exact pe_glob hg e ⟨t, rfl⟩ hd
theorem pe_strT {X : Cx} {x z : Str} {pos : Pos} (T : StrT X.mg x z) (hg : Gl X x := by rfl) (hd : (x == ("__debug__" : Str)) = false := by decide) : PE X (.Name x pos) (tC (.str z)) := by
  obtain ⟨t, e⟩ := T
  exact pe_glob hg e ⟨t, rfl⟩ hd
end Hs
end
section
set_option Elab.async false
set_option linter.all false
/-! Reading of values, as it is told by the specification: equations without fuel, lengths. Nothing of the program. -/
namespace Rd
open Sw

/-! ### varying numbers -/
def vgo : Nat → Nat → Nat → Bytes → Except Bool (Nat × Nat)
  | 0, _, _, _ => .error false
  | _ + 1, _, _, [] => .error true
  | k + 1, i, n, c :: r =>
    if c.toNat < 128 then (if (0 < c.toNat ∨ i = 0) ∧ n + c.toNat % 128 * 128 ^ i < 2 ^ 32 then .ok (n + c.toNat % 128 * 128 ^ i, i + 1) else .error false)
    else vgo k (i + 1) (n + c.toNat % 128 * 128 ^ i) r
def vfold (l : Bytes) : Nat := l.foldr (fun (x : UInt8) (m : Nat) => x.toNat % 128 + 128 * m) 0
def vout (p : Nat) (b : Bytes) : Except Bool (Nat × Nat) → Except Fault (Nat × Nat)
  | .ok x => .ok x
  | .error true => .error ⟨1, p + b.length⟩
  | .error false => .error ⟨3, p⟩
theorem u8_zero {c : UInt8} : c = 0 ↔ c.toNat = 0 := by
  constructor
  · intro h; subst h; rfl
  · intro h; exact UInt8.toNat_inj.mp h
theorem vgo_eq : ∀ (k i n : Nat) (b : Bytes), vgo k i n b =
    (let h := (b.take k).takeWhile fun (c : UInt8) => decide (128 ≤ c.toNat)
     if h.length = k then .error false else match b.drop h.length with
      | [] => .error true
      | c :: _ => if (0 < c.toNat ∨ i + h.length = 0) ∧ n + vfold (h ++ [c]) * 128 ^ i < 2 ^ 32 then .ok (n + vfold (h ++ [c]) * 128 ^ i, i + h.length + 1) else .error false)
  | 0, i, n, b => by simp [vgo]
  | k + 1, i, n, [] => by simp [vgo]
  | k + 1, i, n, c :: r => by
    by_cases hc : c.toNat < 128
    · have h1 : ¬ 128 ≤ c.toNat := by omega
      have e : c.toNat % 128 = c.toNat := Nat.mod_eq_of_lt hc
      simp [vgo, hc, h1, vfold, e]
    · have h1 : 128 ≤ c.toNat := by omega
      have ih := vgo_eq k (i + 1) (n + c.toNat % 128 * 128 ^ i) r
      have e : vgo (k + 1) i n (c :: r) = vgo k (i + 1) (n + c.toNat % 128 * 128 ^ i) r := by
        rw [vgo, if_neg hc]
      rw [e, ih]
      simp only [List.take_succ_cons, List.takeWhile_cons, h1, decide_true, ↓reduceIte, List.length_cons, Nat.add_right_cancel_iff, List.drop_succ_cons]
      generalize hh : List.takeWhile (fun c => decide (128 ≤ c.toNat)) (List.take k r) = h
      by_cases hk : h.length = k
      · simp [hk]
      · simp only [hk, ↓reduceIte]
        cases hd : r.drop h.length with
        | nil => rfl
        | cons x y =>
          have q : n + c.toNat % 128 * 128 ^ i + vfold (h ++ [x]) * 128 ^ (i + 1) = n + vfold (c :: h ++ [x]) * 128 ^ i := by
            have : vfold (c :: h ++ [x]) = c.toNat % 128 + 128 * vfold (h ++ [x]) := rfl
            rw [this, Nat.pow_succ, Nat.add_mul, Nat.add_assoc]
            congr 2
            rw [Nat.mul_comm (128 ^ i) 128, ← Nat.mul_assoc, Nat.mul_comm _ 128]
          simp only [q]
          have q2 : i + 1 + h.length = i + (h.length + 1) := by omega
          rw [q2]
theorem vary_go (p : Nat) (b : Bytes) : varyOf p b = vout p b (vgo 5 0 0 b) := by
  rw [vgo_eq]
  unfold varyOf
  simp only
  generalize hh : List.takeWhile (fun c => decide (128 ≤ c.toNat)) (List.take 5 b) = h
  by_cases hk : h.length = 5
  · simp [hk, vout]
  · simp only [hk, ↓reduceIte]
    cases hd : b.drop h.length with
    | nil => rfl
    | cons c y =>
      simp only [Nat.zero_add, Nat.pow_zero, Nat.mul_one]
      have e : (h ++ [c]).foldr (fun (x : UInt8) (m : Nat) => x.toNat % 128 + 128 * m) 0 = vfold (h ++ [c]) := rfl
      simp only [e]
      by_cases z : c.toNat = 0
      · have z' : c = 0 := u8_zero.mpr z
        subst z'
        by_cases hl : h.length = 0
        · have : h = [] := List.length_eq_zero_iff.mp hl
          subst this
          simp [vout, vfold]
        · have : 0 < h.length := by omega
          have h0 : h ≠ [] := fun q => hl (by simp [q])
          simp [this, hl, vout, h0]
      · have z' : ¬ c = 0 := fun q => z (u8_zero.mp q)
        have z2 : 0 < c.toNat := by omega
        by_cases hb : vfold (h ++ [c]) < 2 ^ 32
        · have : ¬ 2 ^ 32 ≤ vfold (h ++ [c]) := by omega
          simp [z', z2, hb, this, vout]
        · have : 2 ^ 32 ≤ vfold (h ++ [c]) := by omega
          simp [z', z2, hb, this, vout]
theorem vgo_ok : ∀ (k i n : Nat) (b : Bytes) (N j : Nat), vgo k i n b = .ok (N, j) → ∃ m, N = n + m * 128 ^ i ∧ i < j ∧ j - i ≤ b.length ∧ b.take (j - i) = vary m ∧ (0 < i → 0 < m)
  | 0, i, n, b, N, j, h => by simp [vgo] at h
  | k + 1, i, n, [], N, j, h => by simp [vgo] at h
  | k + 1, i, n, c :: r, N, j, h => by
    by_cases hc : c.toNat < 128
    · have e : c.toNat % 128 = c.toNat := Nat.mod_eq_of_lt hc
      rw [vgo, if_pos hc] at h
      split at h
      · rename_i g
        injection h with h
        obtain ⟨rfl, rfl⟩ := Prod.mk.inj h
        refine ⟨c.toNat, by rw [e], by omega, by simp, ?_, fun hi => ?_⟩
        · rw [vary, if_pos hc, Nat.add_sub_cancel_left]
          simp
        · rcases g.1 with g | g <;> omega
      · cases h
    · rw [vgo, if_neg hc] at h
      obtain ⟨m, e1, e2, e3, e4, e5⟩ := vgo_ok k _ _ _ _ _ h
      have m0 : 0 < m := e5 (by omega)
      have hlt : c.toNat < 256 := c.toNat_lt
      refine ⟨c.toNat % 128 + 128 * m, ?_, by omega, by simp only [List.length_cons]; omega, ?_, fun _ => by omega⟩
      · rw [e1, Nat.pow_succ, Nat.add_mul, Nat.add_assoc]
        congr 2
        rw [Nat.mul_comm (128 ^ i) 128, ← Nat.mul_assoc, Nat.mul_comm _ 128]
      · have q : j - i = (j - (i + 1)) + 1 := by omega
        rw [q, List.take_succ_cons, e4]
        have big : ¬ c.toNat % 128 + 128 * m < 128 := by omega
        conv => rhs; rw [vary, if_neg big]
        have d : (c.toNat % 128 + 128 * m) / 128 = m := by omega
        have r' : 128 + (c.toNat % 128 + 128 * m) % 128 = c.toNat := by omega
        rw [d, r']
        simp
theorem vary_ok {p : Nat} {b : Bytes} {n l : Nat} (h : varyOf p b = .ok (n, l)) : l ≤ b.length ∧ b.take l = vary n ∧ l = (vary n).length ∧ 0 < l ∧ n < 2 ^ 32 := by
  rw [vary_go] at h
  cases e : vgo 5 0 0 b with
  | error x => rw [e] at h; cases x <;> cases h
  | ok x =>
    rw [e] at h
    injection h with h
    subst h
    obtain ⟨m, e1, e2, e3, e4, e5⟩ := vgo_ok _ _ _ _ _ _ e
    have : n = m := by omega
    subst this
    have e4' : b.take l = vary n := e4
    refine ⟨e3, e4', ?_, e2, ?_⟩
    · rw [← e4', List.length_take]; omega
    · rw [vgo_eq] at e
      simp only at e
      split at e
      · cases e
      · split at e
        · cases e
        · split at e
          · rename_i g
            injection e with e
            obtain ⟨q1, q2⟩ := Prod.mk.inj e
            omega
          · cases e

/-! ### UTF-8 -/
theorem follow_ok : ∀ (k lo hi x p : Nat) (b : Bytes) (y : Nat) (r : Bytes), follow k lo hi x p b = .ok (y, r) → ∃ t : Bytes, b = t ++ r ∧ t.length = k
  | 0, lo, hi, x, p, b, y, r, h => by
    injection h with h
    obtain ⟨_, rfl⟩ := Prod.mk.inj h
    exact ⟨[], rfl, rfl⟩
  | k + 1, lo, hi, x, p, [], y, r, h => by cases h
  | k + 1, lo, hi, x, p, c :: b, y, r, h => by
    rw [follow] at h
    split at h
    · obtain ⟨t, e1, e2⟩ := follow_ok _ _ _ _ _ _ _ _ h
      exact ⟨c :: t, by rw [e1]; rfl, by simp [e2]⟩
    · cases h
theorem scalarAt_ok {p : Nat} {b : Bytes} {x : Nat} {r : Bytes} (h : scalarAt p b = .ok (x, r)) : ∃ t : Bytes, b = t ++ r ∧ 0 < t.length := by
  cases b with
  | nil => cases h
  | cons c b =>
    rw [scalarAt] at h
    split at h
    · cases h
    · obtain ⟨t, e1, e2⟩ := follow_ok _ _ _ _ _ _ _ _ h
      exact ⟨c :: t, by rw [e1]; rfl, by simp⟩
/-- as many steps as are needed -/
theorem scalarsFrom_fuel : ∀ (f g p : Nat) (b : Bytes), b.length ≤ f → b.length ≤ g → scalarsFrom f p b = scalarsFrom g p b
  | f, g, p, [], _, _ => by cases f <;> cases g <;> rfl
  | 0, g, p, c :: b, h, _ => by simp at h
  | f + 1, 0, p, c :: b, _, h => by simp at h
  | f + 1, g + 1, p, c :: b, hf, hg => by
    rw [scalarsFrom, scalarsFrom]
    cases e : scalarAt p (c :: b) with
    | error q => rfl
    | ok x =>
      obtain ⟨y, r⟩ := x
      obtain ⟨t, e1, e2⟩ := scalarAt_ok e
      have hl := congrArg List.length e1
      simp only [List.length_append, List.length_cons] at hl hf hg
      dsimp only
      rw [scalarsFrom_fuel f g _ r (by omega) (by omega)]
    all_goals intro q; cases q
theorem scalars_nil (p : Nat) : scalars p [] = .ok [] := rfl
theorem scalars_cons (p : Nat) (c : UInt8) (b : Bytes) : scalars p (c :: b) = match scalarAt p (c :: b) with
    | .error q => .error q
    | .ok (x, r) => (scalars (p + ((c :: b).length - r.length)) r).map fun (l : List Nat) => x :: l := by
  unfold scalars
  rw [List.length_cons, scalarsFrom]
  cases e : scalarAt p (c :: b) with
  | error q => rfl
  | ok x =>
    obtain ⟨y, r⟩ := x
    obtain ⟨t, e1, e2⟩ := scalarAt_ok e
    have hl := congrArg List.length e1
    simp only [List.length_append, List.length_cons] at hl
    dsimp only
    rw [scalarsFrom_fuel b.length r.length _ r (by omega) (by omega)]
    rfl
  all_goals intro q; cases q
/-! what is read is what would be written -/
theorem u8_of {n : Nat} {c : UInt8} (h : n = c.toNat) : UInt8.ofNat n = c := by
  subst h
  exact UInt8.ofNat_toNat
theorem scalarAt_utf8 {p : Nat} {b : Bytes} {x : Nat} {r : Bytes} (h : scalarAt p b = .ok (x, r)) : b = utf8One x ++ r := by
  cases b with
  | nil => cases h
  | cons c b =>
    have hc := c.toNat_lt
    rw [scalarAt] at h
    unfold leads at h
    split at h
    · cases h
    · rename_i k lo hi hk
      split at hk
      · rename_i h1
        injection hk with hk; simp only [Prod.mk.injEq] at hk; obtain ⟨rfl, rfl, rfl⟩ := hk
        injection h with h; obtain ⟨h2, rfl⟩ := Prod.mk.inj h
        have : x = c.toNat := h2.symm
        subst this
        unfold utf8One
        rw [if_pos h1, u8_of rfl]
        rfl
      split at hk
      · cases hk
      have two : ∀ {lo hi : Nat}, follow 1 lo hi (firstBits 1 c.toNat) (p + 1) b = .ok (x, r) → 194 ≤ c.toNat → c.toNat < 224 → 128 ≤ lo → hi ≤ 191 → c :: b = utf8One x ++ r := by
        intro lo hi h g1 g2 g3 g4
        cases b with
        | nil => cases h
        | cons d b =>
          rw [follow] at h
          split at h
          · rename_i g
            injection h with h; obtain ⟨h2, rfl⟩ := Prod.mk.inj h
            have e : x = 64 * (c.toNat % 32) + d.toNat % 64 := h2.symm
            have hd := d.toNat_lt
            unfold utf8One
            rw [if_neg (by omega), if_pos (by omega), u8_of (c := c) (by omega), u8_of (c := d) (by omega)]
            rfl
          · cases h
      have three : ∀ {lo hi : Nat}, follow 2 lo hi (firstBits 2 c.toNat) (p + 1) b = .ok (x, r) → 224 ≤ c.toNat → c.toNat < 240 → 128 ≤ lo → hi ≤ 191 → (c.toNat = 224 → 160 ≤ lo) → c :: b = utf8One x ++ r := by
        intro lo hi h g1 g2 g3 g4 g5
        cases b with
        | nil => cases h
        | cons d b =>
          rw [follow] at h
          split at h
          · rename_i g
            cases b with
            | nil => cases h
            | cons e b =>
              rw [follow] at h
              split at h
              · rename_i g'
                injection h with h; obtain ⟨h2, rfl⟩ := Prod.mk.inj h
                have e' : x = 64 * (64 * (c.toNat % 16) + d.toNat % 64) + e.toNat % 64 := h2.symm
                have hd := d.toNat_lt
                have he := e.toNat_lt
                unfold utf8One
                rw [if_neg (by omega), if_neg (by omega), if_pos (by omega), u8_of (c := c) (by omega), u8_of (c := d) (by omega), u8_of (c := e) (by omega)]
                rfl
              · cases h
          · cases h
      have four : ∀ {lo hi : Nat}, follow 3 lo hi (firstBits 3 c.toNat) (p + 1) b = .ok (x, r) → 240 ≤ c.toNat → c.toNat < 248 → 128 ≤ lo → hi ≤ 191 → (c.toNat = 240 → 144 ≤ lo) → c :: b = utf8One x ++ r := by
        intro lo hi h g1 g2 g3 g4 g5
        cases b with
        | nil => cases h
        | cons d b =>
          rw [follow] at h
          split at h
          · rename_i g
            cases b with
            | nil => cases h
            | cons e b =>
              rw [follow] at h
              split at h
              · rename_i g'
                cases b with
                | nil => cases h
                | cons f b =>
                  rw [follow] at h
                  split at h
                  · rename_i g''
                    injection h with h; obtain ⟨h2, rfl⟩ := Prod.mk.inj h
                    have e' : x = 64 * (64 * (64 * (c.toNat % 8) + d.toNat % 64) + e.toNat % 64) + f.toNat % 64 := h2.symm
                    have hd := d.toNat_lt
                    have he := e.toNat_lt
                    have hf := f.toNat_lt
                    unfold utf8One
                    rw [if_neg (by omega), if_neg (by omega), if_neg (by omega), u8_of (c := c) (by omega), u8_of (c := d) (by omega), u8_of (c := e) (by omega), u8_of (c := f) (by omega)]
                    rfl
                  · cases h
              · cases h
          · cases h
      split at hk
      · injection hk with hk; simp only [Prod.mk.injEq] at hk; obtain ⟨rfl, rfl, rfl⟩ := hk
        exact two h (by omega) (by omega) (by omega) (by omega)
      split at hk
      · injection hk with hk; simp only [Prod.mk.injEq] at hk; obtain ⟨rfl, rfl, rfl⟩ := hk
        exact three h (by omega) (by omega) (by omega) (by omega) (by omega)
      split at hk
      · injection hk with hk; simp only [Prod.mk.injEq] at hk; obtain ⟨rfl, rfl, rfl⟩ := hk
        exact three h (by omega) (by omega) (by omega) (by omega) (by omega)
      split at hk
      · injection hk with hk; simp only [Prod.mk.injEq] at hk; obtain ⟨rfl, rfl, rfl⟩ := hk
        exact three h (by omega) (by omega) (by omega) (by omega) (by omega)
      split at hk
      · injection hk with hk; simp only [Prod.mk.injEq] at hk; obtain ⟨rfl, rfl, rfl⟩ := hk
        exact four h (by omega) (by omega) (by omega) (by omega) (by omega)
      split at hk
      · injection hk with hk; simp only [Prod.mk.injEq] at hk; obtain ⟨rfl, rfl, rfl⟩ := hk
        exact four h (by omega) (by omega) (by omega) (by omega) (by omega)
      split at hk
      · injection hk with hk; simp only [Prod.mk.injEq] at hk; obtain ⟨rfl, rfl, rfl⟩ := hk
        exact four h (by omega) (by omega) (by omega) (by omega) (by omega)
      · cases hk
theorem scalars_utf8 : ∀ (n p : Nat) (b : Bytes) (t : List Nat), b.length ≤ n → scalars p b = .ok t → utf8 t = b
  | _, p, [], t, _, h => by
    injection h with h
    subst h
    rfl
  | 0, p, c :: b, t, hn, h => by simp at hn
  | n + 1, p, c :: b, t, hn, h => by
    rw [scalars_cons] at h
    cases e : scalarAt p (c :: b) with
    | error q => rw [e] at h; cases h
    | ok x =>
      obtain ⟨y, r⟩ := x
      rw [e] at h
      dsimp only at h
      obtain ⟨t', e1, e2⟩ := scalarAt_ok e
      have hl := congrArg List.length e1
      simp only [List.length_append, List.length_cons] at hl hn
      cases e3 : scalars (p + ((c :: b).length - r.length)) r with
      | error q => rw [e3] at h; cases h
      | ok l =>
        rw [e3] at h
        injection h with h
        subst h
        have ih := scalars_utf8 n _ r l (by omega) e3
        show utf8One y ++ utf8 l = c :: b
        rw [ih]
        exact (scalarAt_utf8 e).symm
theorem textOf_utf8 {p : Nat} {b : Bytes} {t : List Nat} (h : textOf p b = .ok t) : utf8 t = b := by
  unfold textOf at h
  split at h
  · rename_i x e
    injection h with h
    subst h
    exact scalars_utf8 _ _ _ _ (Nat.le_refl _) e
  · cases h
end Rd
end
section
set_option Elab.async false
set_option linter.all false
namespace Rd
open Sw

theorem take_add' {α : Type} (b : List α) (l k : Nat) : b.take (l + k) = b.take l ++ (b.drop l).take k := List.take_add
/-! ### numbers of several bytes -/
theorem ofLe_nil : ofLe [] = 0 := rfl
theorem ofLe_cons (c : UInt8) (m : Bytes) : ofLe (c :: m) = c.toNat + 256 * ofLe m := rfl
theorem ofLe_pos : ∀ {m : Bytes}, m ≠ [] → m.getLast? ≠ some 0 → 0 < ofLe m
  | [], h, _ => absurd rfl h
  | [c], _, h => by
    rw [ofLe_cons]
    have : c ≠ 0 := fun e => h (by rw [e]; rfl)
    have : c.toNat ≠ 0 := fun e => this (u8_zero.mpr e)
    omega
  | c :: d :: m, _, h => by
    have ih := ofLe_pos (m := d :: m) (by simp) (by simpa using h)
    rw [ofLe_cons]
    omega
theorem ofLe_len : ∀ {m : Bytes}, m.getLast? ≠ some 0 → amountLength (ofLe m) = m.length
  | [], _ => by rw [ofLe_nil, amountLength]; rfl
  | c :: m, h => by
    have pos := ofLe_pos (m := c :: m) (by simp) h
    rw [amountLength, if_neg (by omega), ofLe_cons]
    have hc := c.toNat_lt
    have : (c.toNat + 256 * ofLe m) / 256 = ofLe m := by omega
    rw [this]
    by_cases hm : m = []
    · subst hm
      rw [ofLe_nil, amountLength]
      rfl
    · rw [ofLe_len (m := m) (by cases m with | nil => exact absurd rfl hm | cons d m => simpa using h)]
      rfl
theorem le_succ (k n : Nat) : le (k + 1) n = UInt8.ofNat (n % 256) :: le k (n / 256) := by
  unfold le
  rw [List.range_succ_eq_map, List.map_cons, List.map_map]
  congr 1
  · simp
  · apply List.map_congr_left
    intro i _
    simp only [Function.comp]
    rw [Nat.pow_succ, Nat.mul_comm, Nat.div_div_eq_div_mul]
theorem le_ofLe : ∀ m : Bytes, le m.length (ofLe m) = m
  | [] => rfl
  | c :: m => by
    have hc := c.toNat_lt
    rw [List.length_cons, le_succ, ofLe_cons]
    have h1 : (c.toNat + 256 * ofLe m) / 256 = ofLe m := by omega
    have h2 : (c.toNat + 256 * ofLe m) % 256 = c.toNat := by omega
    rw [h1, h2, le_ofLe m, u8_of rfl]
theorem ofLe_lt : ∀ m : Bytes, ofLe m < 256 ^ m.length
  | [] => by simp [ofLe_nil]
  | c :: m => by
    have hc := c.toNat_lt
    have ih := ofLe_lt m
    rw [ofLe_cons, List.length_cons, Nat.pow_succ]
    omega
theorem someOf_ok {p n : Nat} {b m : Bytes} (h : someOf p n b = .ok m) : n ≤ b.length ∧ m = b.take n ∧ m.length = n := by
  unfold someOf at h
  split at h
  · cases h
  · injection h with h
    subst h
    exact ⟨by omega, rfl, by rw [List.length_take]; omega⟩
/-! ### what is read is what would be written -/
def VOk (b : Bytes) (v : Value) (n : Nat) : Prop := n ≤ b.length ∧ b.take n = v.enc ∧ n = v.enc.length ∧ 0 < n
def ROk (b : Bytes) (named : Bool) (m : Row) (n : Nat) : Prop := n ≤ b.length ∧ b.take n = m.enc named ∧ n = (m.enc named).length
theorem vok_of {b : Bytes} {v : Value} {n : Nat} (h1 : n ≤ b.length) (h2 : b.take n = v.enc) (h3 : 0 < n) : VOk b v n := by
  refine ⟨h1, h2, ?_, h3⟩
  rw [← h2, List.length_take]; omega
theorem rok_of {b : Bytes} {m : Row} {named : Bool} {n : Nat} (h1 : n ≤ b.length) (h2 : b.take n = m.enc named) : ROk b named m n := by
  refine ⟨h1, h2, ?_⟩
  rw [← h2, List.length_take]; omega
theorem num_enc {z : Nat} {m : Bytes} (h1 : m.length = z / 2) (h2 : m.getLast? ≠ some 0) (h3 : z ≠ 1) :
    numberBytes (if z % 2 = 1 then -(ofLe m : Int) else (ofLe m : Int)) = vary z ++ m := by
  unfold numberBytes
  have e : (if z % 2 = 1 then -(ofLe m : Int) else (ofLe m : Int)).natAbs = ofLe m := by split <;> simp
  rw [e, ofLe_len h2]
  rw [show le m.length (ofLe m) = m from le_ofLe m]
  congr 2
  by_cases hz : z % 2 = 1
  · have : 0 < m.length := by omega
    have p := ofLe_pos (m := m) (fun q => by rw [q] at this; simp at this) h2
    rw [if_pos hz, if_pos (by omega)]
    omega
  · rw [if_neg hz, if_neg (by omega)]
    omega
theorem moment_enc {m : Bytes} (h : m.length = 8) : le 8 (signed64 (ofLe m) % ((2 ^ 64 : Nat) : Int)).toNat = m := by
  have l := ofLe_lt m
  rw [h] at l
  have e : (signed64 (ofLe m) % ((2 ^ 64 : Nat) : Int)).toNat = ofLe m := by
    unfold signed64
    have : (256 : Nat) ^ 8 = 2 ^ 64 := by decide
    rw [this] at l
    split <;> omega
  rw [e]
  have := le_ofLe m
  rw [h] at this
  exact this
/-! ### reading, without do -/
def before (prev : Option Bytes) (m : Bytes) : Bool := match prev with
  | some q => bytesBefore q m
  | none => true
def nameAt (prev : Option Bytes) (p : Nat) (b : Bytes) : Except Fault (Bytes × Nat) := match varyOf p b with
  | .error e => .error e
  | .ok (k, l) => if k = 0 ∨ NAME < k then .error ⟨6, p⟩ else match someOf (p + l) k (b.drop l) with
    | .error e => .error e
    | .ok m => match textOf (p + l) m with
      | .error e => .error e
      | .ok _ => if before prev m = false then .error ⟨6, p⟩ else .ok (m, l + k)
def firstAt (named : Bool) (prev : Option Bytes) (p : Nat) (b : Bytes) : Except Fault (Bytes × Nat) := if named = true then nameAt prev p b else .ok ([], 0)
theorem row_succ (f deep : Nat) (named : Bool) (n : Nat) (prev : Option Bytes) (p : Nat) (b : Bytes) : rowAt (f + 1) deep named (n + 1) prev p b = match firstAt named prev p b with
    | .error e => .error e
    | .ok (name, l) => match valueAt f (deep + 1) (p + l) (b.drop l) with
      | .error e => .error e
      | .ok (v, u) => match rowAt f deep named n (some name) (p + l + u) (b.drop (l + u)) with
        | .error e => .error e
        | .ok (r, w) => .ok (.cons name v r, l + u + w) := by
  rw [rowAt.eq_def]
  dsimp only
  unfold firstAt
  cases named with
  | false =>
    simp only [bind, Except.bind, Bool.false_eq_true, ↓reduceIte]
    cases valueAt f (deep + 1) (p + 0) (b.drop 0) with
    | error q => rfl
    | ok y =>
      obtain ⟨v, u⟩ := y
      dsimp only
      cases rowAt f deep false n (some []) (p + 0 + u) (b.drop (0 + u)) <;> rfl
  | true =>
    unfold nameAt
    simp only [bind, Except.bind, ↓reduceIte]
    cases varyOf p b with
    | error q => rfl
    | ok x =>
      obtain ⟨k, l⟩ := x
      dsimp only
      by_cases hk : k = 0 ∨ NAME < k
      · rw [if_pos hk, if_pos hk]
      rw [if_neg hk, if_neg hk]
      cases someOf (p + l) k (b.drop l) with
      | error q => rfl
      | ok m =>
        dsimp only
        cases textOf (p + l) m with
        | error q => rfl
        | ok t =>
          dsimp only
          cases prev with
          | none =>
            simp only [before, Bool.true_eq_false, ↓reduceIte]
            cases valueAt f (deep + 1) (p + (l + k)) (b.drop (l + k)) with
            | error q => rfl
            | ok y =>
              obtain ⟨v, u⟩ := y
              dsimp only
              cases rowAt f deep true n (some m) (p + (l + k) + u) (b.drop (l + k + u)) <;> rfl
          | some q =>
            cases hb : bytesBefore q m with
            | false => simp only [before, hb, ↓reduceIte]
            | true =>
              simp only [before, hb, Bool.true_eq_false, ↓reduceIte]
              cases valueAt f (deep + 1) (p + (l + k)) (b.drop (l + k)) with
              | error q => rfl
              | ok y =>
                obtain ⟨v, u⟩ := y
                dsimp only
                cases rowAt f deep true n (some m) (p + (l + k) + u) (b.drop (l + k + u)) <;> rfl
theorem row_zero (f deep : Nat) (named : Bool) (prev : Option Bytes) (p : Nat) (b : Bytes) : rowAt (f + 1) deep named 0 prev p b = .ok (.nil, 0) := by rw [rowAt.eq_def]
/-- what has no members, behind its kind's byte -/
def leafAt (k : Nat) (p : Nat) (r : Bytes) : Except Fault (Value × Nat) := match k with
  | 0 => .ok (.no, 1)
  | 1 => .ok (.yes, 1)
  | 2 => match varyOf (p + 1) r with
    | .error e => .error e
    | .ok (z, l) => if NUMBER < z / 2 then .error ⟨4, p⟩ else match someOf (p + 1 + l) (z / 2) (r.drop l) with
      | .error e => .error e
      | .ok m => if m.getLast? = some 0 ∨ z = 1 then .error ⟨4, p⟩ else .ok (.num (if z % 2 = 1 then -(ofLe m : Int) else (ofLe m : Int)), 1 + l + z / 2)
  | 3 => match varyOf (p + 1) r with
    | .error e => .error e
    | .ok (n, l) => match someOf (p + 1 + l) n (r.drop l) with
      | .error e => .error e
      | .ok m => .ok (.bytes m, 1 + l + n)
  | 4 => match varyOf (p + 1) r with
    | .error e => .error e
    | .ok (n, l) => match someOf (p + 1 + l) n (r.drop l) with
      | .error e => .error e
      | .ok m => match textOf (p + 1 + l) m with
        | .error e => .error e
        | .ok t => .ok (.text t, 1 + l + n)
  | 7 => match someOf (p + 1) 8 r with
    | .error e => .error e
    | .ok m => .ok (.moment (signed64 (ofLe m)), 9)
  | _ => match someOf (p + 1) 32 r with
    | .error e => .error e
    | .ok m => .ok (.id m, 33)
def rowV (k : Nat) (m : Row) : Value := if k = 6 then .rec_ m else .list m
theorem val_nil (f deep p : Nat) : valueAt (f + 1) deep p [] = .error ⟨1, p⟩ := by rw [valueAt.eq_def]
theorem val_nil0 (f deep p : Nat) : valueAt f deep p [] = .error ⟨1, p⟩ := by
  cases f with
  | zero => rw [valueAt.eq_def]; rfl
  | succ f => exact val_nil f deep p
theorem val_zero (deep p : Nat) (b : Bytes) : valueAt 0 deep p b = .error ⟨1, p + b.length⟩ := by rw [valueAt.eq_def]
theorem row_none (deep : Nat) (named : Bool) (k : Nat) (prev : Option Bytes) (p : Nat) (b : Bytes) : rowAt 0 deep named k prev p b = .error ⟨1, p + b.length⟩ := by rw [rowAt.eq_def]
theorem val_cons (f deep p : Nat) (k : UInt8) (r : Bytes) : valueAt (f + 1) deep p (k :: r) =
    if 8 < k.toNat then .error ⟨2, p⟩ else if DEEP < deep then .error ⟨7, p⟩ else if k.toNat = 5 ∨ k.toNat = 6 then (match varyOf (p + 1) r with
      | .error e => .error e
      | .ok (n, l) => match rowAt f deep (k.toNat == 6) n none (p + 1 + l) (r.drop l) with
        | .error e => .error e
        | .ok (m, u) => .ok (rowV k.toNat m, 1 + l + u)) else leafAt k.toNat p r := by
  rw [valueAt.eq_def]
  dsimp only
  by_cases h1 : 8 < k.toNat
  · rw [if_pos h1, if_pos h1]
  rw [if_neg h1, if_neg h1]
  by_cases h2 : DEEP < deep
  · rw [if_pos h2, if_pos h2]
  rw [if_neg h2, if_neg h2]
  generalize k.toNat = j at h1 ⊢
  have hj : j = 0 ∨ j = 1 ∨ j = 2 ∨ j = 3 ∨ j = 4 ∨ j = 5 ∨ j = 6 ∨ j = 7 ∨ j = 8 := by omega
  rcases hj with rfl | rfl | rfl | rfl | rfl | rfl | rfl | rfl | rfl
  · rfl
  · rfl
  · rw [if_neg (by decide)]
    simp only [bind, Except.bind, leafAt]
    cases varyOf (p + 1) r with
    | error q => rfl
    | ok x =>
      obtain ⟨z, l⟩ := x
      dsimp only
      split
      · rfl
      · cases someOf (p + 1 + l) (z / 2) (r.drop l) <;> rfl
  · rw [if_neg (by decide)]
    simp only [bind, Except.bind, leafAt]
    cases varyOf (p + 1) r with
    | error q => rfl
    | ok x =>
      obtain ⟨z, l⟩ := x
      dsimp only
      cases someOf (p + 1 + l) z (r.drop l) <;> rfl
  · rw [if_neg (by decide)]
    simp only [bind, Except.bind, leafAt]
    cases varyOf (p + 1) r with
    | error q => rfl
    | ok x =>
      obtain ⟨z, l⟩ := x
      dsimp only
      cases someOf (p + 1 + l) z (r.drop l) with
      | error q => rfl
      | ok m =>
        dsimp only
        cases textOf (p + 1 + l) m <;> rfl
  · rw [if_pos (by decide)]
    simp only [bind, Except.bind]
    cases varyOf (p + 1) r with
    | error q => rfl
    | ok x =>
      obtain ⟨z, l⟩ := x
      dsimp only
      show _ = (match rowAt f deep false z none (p + 1 + l) (List.drop l r) with
        | .error e => .error e
        | .ok (m, u) => .ok (rowV 5 m, 1 + l + u) : Except Fault (Value × Nat))
      cases rowAt f deep false z none (p + 1 + l) (r.drop l) <;> rfl
  · rw [if_pos (by decide)]
    simp only [bind, Except.bind]
    cases varyOf (p + 1) r with
    | error q => rfl
    | ok x =>
      obtain ⟨z, l⟩ := x
      dsimp only
      show _ = (match rowAt f deep true z none (p + 1 + l) (List.drop l r) with
        | .error e => .error e
        | .ok (m, u) => .ok (rowV 6 m, 1 + l + u) : Except Fault (Value × Nat))
      cases rowAt f deep true z none (p + 1 + l) (r.drop l) <;> rfl
  · rw [if_neg (by decide)]
    simp only [bind, Except.bind, leafAt]
    cases someOf (p + 1) 8 r <;> rfl
  · rw [if_neg (by decide)]
    simp only [bind, Except.bind, leafAt]
    cases someOf (p + 1) 32 r <;> rfl
theorem nameAt_ok {prev : Option Bytes} {p : Nat} {b m : Bytes} {l : Nat} (h : nameAt prev p b = .ok (m, l)) : l ≤ b.length ∧ b.take l = vary m.length ++ m := by
  unfold nameAt at h
  split at h
  · cases h
  · rename_i k l' e1
    split at h
    · cases h
    split at h
    · cases h
    rename_i m' e2
    split at h
    · cases h
    revert h
    generalize before prev m' = c
    intro h
    cases c with
    | false => cases h
    | true =>
    injection h with h; obtain ⟨rfl, rfl⟩ := Prod.mk.inj h
    obtain ⟨a1, a2, a3, a4, a5⟩ := vary_ok e1
    obtain ⟨b1, b2, b3⟩ := someOf_ok e2
    rw [List.length_drop] at b1
    exact ⟨by omega, by rw [take_add', a2, b3, b2]⟩
theorem firstAt_ok {named : Bool} {prev : Option Bytes} {p : Nat} {b m : Bytes} {l : Nat} (h : firstAt named prev p b = .ok (m, l)) : l ≤ b.length ∧ b.take l = (if named = true then vary m.length ++ m else []) := by
  unfold firstAt at h
  cases named with
  | true => exact nameAt_ok h
  | false =>
    injection h with h; obtain ⟨rfl, rfl⟩ := Prod.mk.inj h
    exact ⟨Nat.zero_le _, by simp⟩
theorem leaf_ok {k : UInt8} {p : Nat} {r : Bytes} {v : Value} {n : Nat} (h8 : ¬ 8 < k.toNat) (hk : ¬ (k.toNat = 5 ∨ k.toNat = 6)) (h : leafAt k.toNat p r = .ok (v, n)) : VOk (k :: r) v n := by
  have cons_case : ∀ {l : Nat} {x : Bytes} {w : Value}, l ≤ r.length → r.take l = x → w.enc = k :: x → VOk (k :: r) w (1 + l) := by
    intro l x w h1 h2 h3
    refine vok_of (by simp only [List.length_cons]; omega) ?_ (by omega)
    rw [show 1 + l = l + 1 by omega, List.take_succ_cons, h2, h3]
  have kk : ∀ {n : Nat}, k.toNat = n → k = UInt8.ofNat n := fun {n} e => by rw [← e]; exact (UInt8.ofNat_toNat).symm
  have hj : k.toNat = 0 ∨ k.toNat = 1 ∨ k.toNat = 2 ∨ k.toNat = 3 ∨ k.toNat = 4 ∨ k.toNat = 7 ∨ k.toNat = 8 := by omega
  rcases hj with e | e | e | e | e | e | e
  · rw [e] at h
    injection h with h; obtain ⟨rfl, rfl⟩ := Prod.mk.inj h
    refine cons_case (l := 0) (x := []) (by omega) (by simp) ?_
    rw [kk e, Value.enc]; rfl
  · rw [e] at h
    injection h with h; obtain ⟨rfl, rfl⟩ := Prod.mk.inj h
    refine cons_case (l := 0) (x := []) (by omega) (by simp) ?_
    rw [kk e, Value.enc]; rfl
  · rw [e] at h
    simp only [leafAt] at h
    split at h
    · cases h
    rename_i z l e1
    split at h
    · cases h
    split at h
    · cases h
    rename_i m e2
    split at h
    · cases h
    rename_i g1 g2
    injection h with h; obtain ⟨rfl, rfl⟩ := Prod.mk.inj h
    obtain ⟨a1, a2, a3, a4, a5⟩ := vary_ok e1
    obtain ⟨b1, b2, b3⟩ := someOf_ok e2
    rw [List.length_drop] at b1
    rw [Nat.add_assoc]
    refine cons_case (x := vary z ++ m) (by omega) ?_ ?_
    · rw [take_add', a2, b2]
    · rw [kk e, Value.enc, num_enc b3 (fun q => g2 (Or.inl q)) (fun q => g2 (Or.inr q))]
      rfl
  · rw [e] at h
    simp only [leafAt] at h
    split at h
    · cases h
    rename_i z l e1
    split at h
    · cases h
    rename_i m e2
    injection h with h; obtain ⟨rfl, rfl⟩ := Prod.mk.inj h
    obtain ⟨a1, a2, a3, a4, a5⟩ := vary_ok e1
    obtain ⟨b1, b2, b3⟩ := someOf_ok e2
    rw [List.length_drop] at b1
    rw [Nat.add_assoc]
    refine cons_case (x := vary z ++ m) (by omega) ?_ ?_
    · rw [take_add', a2, b2]
    · rw [kk e, Value.enc, b3]
      rfl
  · rw [e] at h
    simp only [leafAt] at h
    split at h
    · cases h
    rename_i z l e1
    split at h
    · cases h
    rename_i m e2
    split at h
    · cases h
    rename_i t e3
    injection h with h; obtain ⟨rfl, rfl⟩ := Prod.mk.inj h
    obtain ⟨a1, a2, a3, a4, a5⟩ := vary_ok e1
    obtain ⟨b1, b2, b3⟩ := someOf_ok e2
    rw [List.length_drop] at b1
    rw [Nat.add_assoc]
    refine cons_case (x := vary z ++ m) (by omega) ?_ ?_
    · rw [take_add', a2, b2]
    · rw [kk e, Value.enc, textOf_utf8 e3, b3]
      rfl
  · rw [e] at h
    simp only [leafAt] at h
    split at h
    · cases h
    rename_i m e2
    injection h with h; obtain ⟨rfl, rfl⟩ := Prod.mk.inj h
    obtain ⟨b1, b2, b3⟩ := someOf_ok e2
    refine cons_case (l := 8) (x := m) b1 b2.symm ?_
    rw [kk e, Value.enc, moment_enc b3]
    rfl
  · rw [e] at h
    simp only [leafAt] at h
    split at h
    · cases h
    rename_i m e2
    injection h with h; obtain ⟨rfl, rfl⟩ := Prod.mk.inj h
    obtain ⟨b1, b2, b3⟩ := someOf_ok e2
    refine cons_case (l := 32) (x := m) b1 b2.symm ?_
    rw [kk e, Value.enc]
    rfl
theorem enc_both : ∀ f : Nat, (∀ deep p b v n, valueAt f deep p b = .ok (v, n) → VOk b v n) ∧ (∀ deep named k prev p b m n, rowAt f deep named k prev p b = .ok (m, n) → ROk b named m n ∧ m.length = k)
  | 0 => by
    refine ⟨fun deep p b v n h => ?_, fun deep named k prev p b m n h => ?_⟩
    · rw [val_zero] at h; cases h
    · rw [row_none] at h; cases h
  | f + 1 => by
    obtain ⟨ihv, ihr⟩ := enc_both f
    refine ⟨fun deep p b v n h => ?_, fun deep named k prev p b m n h => ?_⟩
    · cases b with
      | nil => rw [val_nil] at h; cases h
      | cons k r =>
        rw [val_cons] at h
        split at h
        · cases h
        rename_i g1
        split at h
        · cases h
        split at h
        · rename_i g2
          split at h
          · cases h
          rename_i z l e1
          split at h
          · cases h
          rename_i m u e2
          injection h with h; obtain ⟨rfl, rfl⟩ := Prod.mk.inj h
          obtain ⟨a1, a2, a3, a4, a5⟩ := vary_ok e1
          obtain ⟨⟨b1, b2, b3⟩, b4⟩ := ihr _ _ _ _ _ _ _ _ e2
          rw [List.length_drop] at b1
          refine vok_of (by simp only [List.length_cons]; omega) ?_ (by omega)
          rw [show 1 + l + u = (l + u) + 1 by omega, List.take_succ_cons, take_add', a2, b2]
          have kk : ∀ {n : Nat}, k.toNat = n → k = UInt8.ofNat n := fun {n} e => by rw [← e]; exact (UInt8.ofNat_toNat).symm
          rcases g2 with e | e
          · rw [e, kk e]
            show _ = (Value.list m).enc
            rw [Value.enc, b4]
            rfl
          · rw [e, kk e]
            show _ = (Value.rec_ m).enc
            rw [Value.enc, b4]
            rfl
        · rename_i g2
          exact leaf_ok g1 g2 h
    · cases k with
      | zero =>
        rw [row_zero] at h
        injection h with h; obtain ⟨rfl, rfl⟩ := Prod.mk.inj h
        exact ⟨rok_of (Nat.zero_le _) (by simp [Row.enc]), rfl⟩
      | succ k =>
        rw [row_succ] at h
        split at h
        · cases h
        rename_i name l e0
        split at h
        · cases h
        rename_i v u e1
        split at h
        · cases h
        rename_i m' u' e2
        injection h with h; obtain ⟨rfl, rfl⟩ := Prod.mk.inj h
        obtain ⟨c1, c2⟩ := firstAt_ok e0
        obtain ⟨a1, a2, a3, a4⟩ := ihv _ _ _ _ _ e1
        obtain ⟨⟨b1, b2, b3⟩, b4⟩ := ihr _ _ _ _ _ _ _ _ e2
        rw [List.length_drop] at a1 b1
        refine ⟨rok_of (by omega) ?_, by show m'.length + 1 = k + 1; rw [b4]⟩
        rw [take_add', take_add', c2, a2, b2, Row.enc, List.append_assoc]
theorem val_enc {f deep p : Nat} {b : Bytes} {v : Value} {n : Nat} (h : valueAt f deep p b = .ok (v, n)) : VOk b v n := (enc_both f).1 _ _ _ _ _ h
theorem row_enc {f deep : Nat} {named : Bool} {k : Nat} {prev : Option Bytes} {p : Nat} {b : Bytes} {m : Row} {n : Nat} (h : rowAt f deep named k prev p b = .ok (m, n)) : ROk b named m n ∧ m.length = k := (enc_both f).2 _ _ _ _ _ _ _ _ h
/-! ### as many steps as are needed -/
theorem fuel_both : ∀ f : Nat, (∀ g deep p b, 2 * b.length ≤ f → 2 * b.length ≤ g → valueAt f deep p b = valueAt g deep p b) ∧
    (∀ g deep named k prev p b, 2 * b.length + 1 ≤ f → 2 * b.length + 1 ≤ g → rowAt f deep named k prev p b = rowAt g deep named k prev p b)
  | 0 => by
    refine ⟨fun g deep p b h1 h2 => ?_, fun g deep named k prev p b h1 h2 => by omega⟩
    have : b = [] := List.length_eq_zero_iff.mp (by omega)
    subst this
    rw [val_nil0, val_nil0]
  | f + 1 => by
    obtain ⟨ihv, ihr⟩ := fuel_both f
    refine ⟨fun g deep p b h1 h2 => ?_, fun g deep named k prev p b h1 h2 => ?_⟩
    · cases b with
      | nil => rw [val_nil0, val_nil0]
      | cons k r =>
        cases g with
        | zero => simp at h2
        | succ g =>
          simp only [List.length_cons] at h1 h2
          rw [val_cons, val_cons]
          split
          · rfl
          split
          · rfl
          split
          · cases e1 : varyOf (p + 1) r with
            | error q => rfl
            | ok x =>
              obtain ⟨z, l⟩ := x
              obtain ⟨a1, a2, a3, a4, a5⟩ := vary_ok e1
              dsimp only
              rw [ihr g _ _ _ _ _ (r.drop l) (by rw [List.length_drop]; omega) (by rw [List.length_drop]; omega)]
          · rfl
    · cases g with
      | zero => omega
      | succ g =>
        cases k with
        | zero => rw [row_zero, row_zero]
        | succ k =>
          rw [row_succ, row_succ]
          cases e0 : firstAt named prev p b with
          | error q => rfl
          | ok x =>
            obtain ⟨name, l⟩ := x
            dsimp only
            rw [ihv g _ _ (b.drop l) (by rw [List.length_drop]; omega) (by rw [List.length_drop]; omega)]
            cases e1 : valueAt g (deep + 1) (p + l) (b.drop l) with
            | error q => rfl
            | ok y =>
              obtain ⟨v, u⟩ := y
              obtain ⟨a1, a2, a3, a4⟩ := val_enc e1
              rw [List.length_drop] at a1
              dsimp only
              rw [ihr g _ _ _ _ _ (b.drop (l + u)) (by rw [List.length_drop]; omega) (by rw [List.length_drop]; omega)]
/-- a value at a place; a row -/
def vAt (deep p : Nat) (b : Bytes) : Except Fault (Value × Nat) := valueAt (2 * b.length) deep p b
def rAt (deep : Nat) (named : Bool) (k : Nat) (prev : Option Bytes) (p : Nat) (b : Bytes) : Except Fault (Row × Nat) := rowAt (2 * b.length + 1) deep named k prev p b
theorem vAt_fuel {f deep p : Nat} {b : Bytes} (h : 2 * b.length ≤ f) : valueAt f deep p b = vAt deep p b := (fuel_both f).1 _ _ _ _ h (Nat.le_refl _)
theorem rAt_fuel {f deep : Nat} {named : Bool} {k : Nat} {prev : Option Bytes} {p : Nat} {b : Bytes} (h : 2 * b.length + 1 ≤ f) : rowAt f deep named k prev p b = rAt deep named k prev p b := (fuel_both f).2 _ _ _ _ _ _ _ h (Nat.le_refl _)
theorem vAt_nil (deep p : Nat) : vAt deep p [] = .error ⟨1, p⟩ := val_nil0 _ _ _
theorem vAt_cons (deep p : Nat) (k : UInt8) (r : Bytes) : vAt deep p (k :: r) =
    if 8 < k.toNat then .error ⟨2, p⟩ else if DEEP < deep then .error ⟨7, p⟩ else if k.toNat = 5 ∨ k.toNat = 6 then (match varyOf (p + 1) r with
      | .error e => .error e
      | .ok (n, l) => match rAt deep (k.toNat == 6) n none (p + 1 + l) (r.drop l) with
        | .error e => .error e
        | .ok (m, u) => .ok (rowV k.toNat m, 1 + l + u)) else leafAt k.toNat p r := by
  rw [← vAt_fuel (f := 2 * (k :: r).length + 1) (by omega), val_cons]
  split
  · rfl
  split
  · rfl
  split
  · cases e1 : varyOf (p + 1) r with
    | error q => rfl
    | ok x =>
      obtain ⟨z, l⟩ := x
      obtain ⟨a1, a2, a3, a4, a5⟩ := vary_ok e1
      dsimp only
      rw [rAt_fuel (by rw [List.length_drop]; simp only [List.length_cons]; omega)]
  · rfl
theorem rAt_zero (deep : Nat) (named : Bool) (prev : Option Bytes) (p : Nat) (b : Bytes) : rAt deep named 0 prev p b = .ok (.nil, 0) := row_zero _ _ _ _ _ _
theorem rAt_succ (deep : Nat) (named : Bool) (n : Nat) (prev : Option Bytes) (p : Nat) (b : Bytes) : rAt deep named (n + 1) prev p b = match firstAt named prev p b with
    | .error e => .error e
    | .ok (name, l) => match vAt (deep + 1) (p + l) (b.drop l) with
      | .error e => .error e
      | .ok (v, u) => match rAt deep named n (some name) (p + l + u) (b.drop (l + u)) with
        | .error e => .error e
        | .ok (r, w) => .ok (.cons name v r, l + u + w) := by
  unfold rAt
  rw [row_succ]
  cases e0 : firstAt named prev p b with
  | error q => rfl
  | ok x =>
    obtain ⟨name, l⟩ := x
    dsimp only
    rw [vAt_fuel (by rw [List.length_drop]; omega)]
    cases e1 : vAt (deep + 1) (p + l) (b.drop l) with
    | error q => rfl
    | ok y =>
      obtain ⟨v, u⟩ := y
      obtain ⟨a1, a2, a3, a4⟩ := val_enc e1
      rw [List.length_drop] at a1
      dsimp only
      rw [rAt_fuel (by rw [List.length_drop]; omega)]
      rfl
theorem decode_eq (b : Bytes) : decode b = match vAt 1 0 b with
    | .error e => .error e
    | .ok (v, n) => if n < b.length then .error ⟨8, n⟩ else .ok v := by
  unfold decode
  rw [vAt_fuel (by omega)]
  cases vAt 1 0 b <;> rfl
end Rd
end
section
set_option Elab.async false
set_option linter.all false
set_option maxRecDepth 100000
set_option maxHeartbeats 2000000
namespace Hs
open PySem PySem.Spec PyProof.Rows L2
/-! ### utfeight -/
structure TUtf (K : PySem.W.Frag) (mg : Str → Option Value) : Prop where
  second_of_three : FnT K mg "second_of_three" s_second_of_three
  second_of_four : FnT K mg "second_of_four" s_second_of_four
  tails_of : FnT K mg "tails_of" s_tails_of
  broken_at : FnT K mg "broken_at" s_broken_at
def pairV (p : Nat × Nat) : List V := [.int (p.1 : Int), .int (p.2 : Int)]
def sec3 (c : Nat) : Nat × Nat := if c = 224 then (160, 191) else if c = 237 then (128, 159) else (128, 191)
def sec4 (c : Nat) : Nat × Nat := if c = 240 then (144, 191) else if c = 244 then (128, 143) else (128, 191)
def spSec (g : Nat → Nat × Nat) : Sp := fun vs H Q _ => ∃ c : Nat, vs = [.int (c : Int)] ∧ ∀ p, H p = none → Q (.ref p) (upd H p (.tup (pairV (g c))))
section
variable {P : Program} {w : World} {K : PySem.W.Frag} {mg : Str → Option Value} {base : Heap}
theorem iteD {c A B : Prop} [Decidable c] (h1 : c → A) (h2 : ¬ c → B) : if decide c = true then A else B := by
  by_cases h : c
  · rw [if_pos (decide_eq_true h)]
    exact h1 h
  · rw [if_neg (by rw [decide_eq_false h]; exact Bool.false_ne_true)]
    exact h2 h
theorem two_le : ([V.int (160 : Int), V.int (191 : Int)] : List V).length ≤ sizeLine := by show 2 ≤ sizeLine; decide
theorem dec_int {a b : Int} : decide (V.int a = V.int b) = decide (a = b) := by
  by_cases e : a = b
  · subst e; simp
  · have : V.int a ≠ V.int b := fun q => e (V.int.inj q)
    rw [decide_eq_false e, decide_eq_false this]
theorem ok_second_of_three (F : FnT K mg "second_of_three" s_second_of_three) : FnOk P w K mg base CX0 1 (ga K "second_of_three") (fdA K (ga K "second_of_three")) ["lead"] (spSec sec3) := by
  refine F.f.ok sc_second_of_three (fun vs H Q E h => by obtain ⟨c, rfl, _⟩ := h; rfl) (fun cdv A outer s H vs Q E hr h => ⟨_, PSs.nox
    (pss_cons (ps_if (pt_cmpR op_eq (pv 0) pe_int (nomark _)) (pss_one (ps_ret (pe_tup (pa_cons pe_int (pa_cons pe_int pa_nil))))) pss_nil)
    (pss_cons (ps_if (pt_cmpR op_eq (pv 0) pe_int (nomark _)) (pss_one (ps_ret (pe_tup (pa_cons pe_int (pa_cons pe_int pa_nil))))) pss_nil)
    (pss_one (ps_ret (pe_tup (pa_cons pe_int (pa_cons pe_int pa_nil))))))), ?_⟩)
  obtain ⟨c, rfl, k⟩ := h
  refine ⟨_, rfl, rfl, _, rfl, ?_⟩
  rw [dec_int]
  refine ite2 (fun e => ?_) (fun e => ?_)
  · have e' : c = 224 := by have := of_decide_eq_true e; omega
    refine ⟨two_le, fun p hp => ?_⟩
    have q := k p hp
    unfold sec3 at q
    rw [if_pos e'] at q
    exact q
  refine ⟨_, rfl, rfl, _, rfl, ?_⟩
  rw [dec_int]
  have n1 : ¬ c = 224 := fun z => e (decide_eq_true (by omega))
  refine ite2 (fun e => ?_) (fun e => ?_)
  · have e' : c = 237 := by have := of_decide_eq_true e; omega
    refine ⟨two_le, fun p hp => ?_⟩
    have q := k p hp
    unfold sec3 at q
    rw [if_neg n1, if_pos e'] at q
    exact q
  have n2 : ¬ c = 237 := fun z => e (decide_eq_true (by omega))
  refine ⟨two_le, fun p hp => ?_⟩
  have q := k p hp
  unfold sec3 at q
  rw [if_neg n1, if_neg n2] at q
  exact q
theorem two_le' {a b : V} : ([a, b] : List V).length ≤ sizeLine := by show 2 ≤ sizeLine; decide
theorem one_le {a : V} : ([a] : List V).length ≤ sizeLine := by show 1 ≤ sizeLine; decide
theorem nil_le : ([] : List V).length ≤ sizeLine := by show 0 ≤ sizeLine; decide
theorem three_le {a b c : V} : ([a, b, c] : List V).length ≤ sizeLine := by show 3 ≤ sizeLine; decide
theorem same_upd {H : Hp} {p : Addr} {o : HO} (h : H p = none) : Same H (upd H p o) := fun b u q => by
  rw [upd_ne (ne_of_none q h)]
  exact q
theorem ok_second_of_four (F : FnT K mg "second_of_four" s_second_of_four) : FnOk P w K mg base CX0 1 (ga K "second_of_four") (fdA K (ga K "second_of_four")) ["lead"] (spSec sec4) := by
  refine F.f.ok sc_second_of_four (fun vs H Q E h => by obtain ⟨c, rfl, _⟩ := h; rfl) (fun cdv A outer s H vs Q E hr h => ⟨_, PSs.nox
    (pss_cons (ps_if (pt_cmpR op_eq (pv 0) pe_int (nomark _)) (pss_one (ps_ret (pe_tup (pa_cons pe_int (pa_cons pe_int pa_nil))))) pss_nil)
    (pss_cons (ps_if (pt_cmpR op_eq (pv 0) pe_int (nomark _)) (pss_one (ps_ret (pe_tup (pa_cons pe_int (pa_cons pe_int pa_nil))))) pss_nil)
    (pss_one (ps_ret (pe_tup (pa_cons pe_int (pa_cons pe_int pa_nil))))))), ?_⟩)
  obtain ⟨c, rfl, k⟩ := h
  refine ⟨_, rfl, rfl, _, rfl, ?_⟩
  rw [dec_int]
  refine iteD (fun e => ?_) (fun n1 => ?_)
  · have e' : c = 240 := by omega
    subst e'
    exact ⟨two_le', fun p hp => k p hp⟩
  refine ⟨_, rfl, rfl, _, rfl, ?_⟩
  rw [dec_int]
  have n1 : ¬ c = 240 := by omega
  refine iteD (fun e => ?_) (fun n2 => ?_)
  · have e' : c = 244 := by omega
    subst e'
    exact ⟨two_le', fun p hp => k p hp⟩
  have n2 : ¬ c = 244 := by omega
  refine ⟨two_le', fun p hp => ?_⟩
  have q := k p hp
  unfold sec4 at q
  rw [if_neg n1, if_neg n2] at q
  exact q
def tails (c : Nat) : Option (List (Nat × Nat)) := (Sw.leads c).map fun x => match x.1 with
  | 0 => []
  | k + 1 => (x.2.1, x.2.2) :: List.replicate k (128, 191)
/-- a list of pairs -/
def PairsAt (H : Hp) (l : Addr) (ts : List (Nat × Nat)) : Prop := ∃ as : List Addr, H l = some (.lst (as.map V.ref)) ∧ as.length = ts.length ∧ ∀ (i : Nat) (a : Addr) (t : Nat × Nat), as[i]? = some a → ts[i]? = some t → H a = some (.tup (pairV t))
theorem rd_chain {a b c : Int} {i : Nat} {σ : L2.St} {H : Hp} {Q : Bool → Hp → Prop} (hs : σ[i]? = some (some (.int c))) (h : Q (decide (a ≤ c ∧ c ≤ b)) H) :
    tTest (tChain (rI0 fun i j => .bl (decide (i ≤ j))) (rI0 fun i j => .bl (decide (i ≤ j))) (tC (.int a)) (tVar i) (tC (.int b))) σ H Q := by
  refine ⟨_, hs, a, c, rfl, rfl, _, rfl, iteD (fun e1 => ⟨c, b, rfl, rfl, _, rfl, ?_⟩) (fun e1 => ⟨_, rfl, ?_⟩)⟩
  · have e : decide (a ≤ c ∧ c ≤ b) = decide (c ≤ b) := by simp [e1]
    rw [← e]
    exact h
  · have e : decide (a ≤ c ∧ c ≤ b) = false := by simp [e1]
    rw [← e]
    exact h
theorem pairs1 {H : Hp} {p q : Addr} {t : Nat × Nat} (hp : H p = some (.tup (pairV t))) (hq : H q = none) : PairsAt (upd H q (.lst [.ref p])) q [t] := by
  refine ⟨[p], upd_same, rfl, fun i a u h1 h2 => ?_⟩
  cases i with
  | succ i => simp at h1
  | zero =>
    obtain rfl : p = a := by simpa using h1
    obtain rfl : t = u := by simpa using h2
    rw [upd_ne (ne_of_none hp hq)]
    exact hp
theorem pairs2 {H : Hp} {p p2 q : Addr} {t t2 : Nat × Nat} (hp : H p = some (.tup (pairV t))) (hp2 : H p2 = some (.tup (pairV t2))) (hq : H q = none) : PairsAt (upd H q (.lst [.ref p, .ref p2])) q [t, t2] := by
  refine ⟨[p, p2], upd_same, rfl, fun i a u h1 h2 => ?_⟩
  match i with
  | 0 =>
    obtain rfl : p = a := by simpa using h1
    obtain rfl : t = u := by simpa using h2
    rw [upd_ne (ne_of_none hp hq)]
    exact hp
  | 1 =>
    obtain rfl : p2 = a := by simpa using h1
    obtain rfl : t2 = u := by simpa using h2
    rw [upd_ne (ne_of_none hp2 hq)]
    exact hp2
  | i + 2 => simp at h1
theorem pairs3 {H : Hp} {p p2 p3 q : Addr} {t t2 t3 : Nat × Nat} (hp : H p = some (.tup (pairV t))) (hp2 : H p2 = some (.tup (pairV t2))) (hp3 : H p3 = some (.tup (pairV t3))) (hq : H q = none) : PairsAt (upd H q (.lst [.ref p, .ref p2, .ref p3])) q [t, t2, t3] := by
  refine ⟨[p, p2, p3], upd_same, rfl, fun i a u h1 h2 => ?_⟩
  match i with
  | 0 =>
    obtain rfl : p = a := by simpa using h1
    obtain rfl : t = u := by simpa using h2
    rw [upd_ne (ne_of_none hp hq)]
    exact hp
  | 1 =>
    obtain rfl : p2 = a := by simpa using h1
    obtain rfl : t2 = u := by simpa using h2
    rw [upd_ne (ne_of_none hp2 hq)]
    exact hp2
  | 2 =>
    obtain rfl : p3 = a := by simpa using h1
    obtain rfl : t3 = u := by simpa using h2
    rw [upd_ne (ne_of_none hp3 hq)]
    exact hp3
  | i + 3 => simp at h1
def spTails : Sp := fun vs H Q _ => ∃ c : Nat, vs = [.int (c : Int)] ∧ (tails c = none → Q .non H) ∧ (∀ ts, tails c = some ts → ∀ H' l, Same H H' → PairsAt H' l ts → Q (.ref l) H')
theorem ok_tails_of (F : FnT K mg "tails_of" s_tails_of) (F3 : FnT K mg "second_of_three" s_second_of_three) (F4 : FnT K mg "second_of_four" s_second_of_four) : FnOk P w K mg base CX0 2 (ga K "tails_of") (fdA K (ga K "tails_of")) ["lead"] spTails := by
  have G3 : FnOk P w K mg base CX0 1 (ga K "second_of_three") (fdA K (ga K "second_of_three")) ["lead"] (spSec sec3) := ok_second_of_three F3
  have G4 : FnOk P w K mg base CX0 1 (ga K "second_of_four") (fdA K (ga K "second_of_four")) ["lead"] (spSec sec4) := ok_second_of_four F4
  have b3 := b_second_of_three F3.f
  have b4 := b_second_of_four F4.f
  refine F.f.ok sc_tails_of (fun vs H Q E h => by obtain ⟨c, rfl, _⟩ := h; rfl) (fun cdv A outer s H vs Q E hr h => ⟨_, PSs.nox
    (pss_cons (ps_if (pt_cmpR op_lt (pv 0) pe_int (nomark _)) (pss_one (ps_ret (pe_lst pa_nil))) pss_nil)
    (pss_cons (ps_if (pt_chain op_le op_le pe_int (pv 0) pe_int) (pss_one (ps_ret (pe_lst (pa_cons (pe_tup (pa_cons pe_int (pa_cons pe_int pa_nil))) pa_nil)))) pss_nil)
    (pss_cons (ps_if (pt_chain op_le op_le pe_int (pv 0) pe_int) (pss_one (ps_ret (pe_lst (pa_cons (pe_call G3 hr rfl F3.g F3.kp b3 .nil pass0 (pa_cons (pv 0) pa_nil)) (pa_cons (pe_tup (pa_cons pe_int (pa_cons pe_int pa_nil))) pa_nil))))) pss_nil)
    (pss_cons (ps_if (pt_chain op_le op_le pe_int (pv 0) pe_int) (pss_one (ps_ret (pe_lst (pa_cons (pe_call G4 hr rfl F4.g F4.kp b4 .nil pass0 (pa_cons (pv 0) pa_nil)) (pa_cons (pe_tup (pa_cons pe_int (pa_cons pe_int pa_nil))) (pa_cons (pe_tup (pa_cons pe_int (pa_cons pe_int pa_nil))) pa_nil)))))) pss_nil)
    (pss_one (ps_ret pe_non)))))), ?_⟩)
  obtain ⟨c, rfl, kN, kS⟩ := h
  refine ⟨_, rfl, _, _, rfl, rfl, _, rfl, ?_⟩
  refine iteD (fun e1 => ?_) (fun e1 => ?_)
  · refine ⟨nil_le, fun p hp => kS [] ?_ _ p (same_upd hp) ⟨[], upd_same, rfl, fun i a t h => by simp at h⟩⟩
    unfold tails Sw.leads
    rw [if_pos (by omega)]
    rfl
  refine rd_chain (c := (c : Int)) rfl (iteD (fun e2 => ?_) (fun e2 => ?_))
  · have hl : tails c = some [(128, 191)] := by
      unfold tails Sw.leads
      rw [if_neg (by omega), if_neg (by omega), if_pos (by omega)]
      rfl
    exact ⟨two_le', fun p hp => ⟨one_le, fun q hq => kS _ hl _ q ((same_upd hp).trans (same_upd hq)) (pairs1 upd_same hq)⟩⟩
  refine rd_chain (c := (c : Int)) rfl (iteD (fun e3 => ?_) (fun e3 => ?_))
  · have hl : tails c = some [sec3 c, (128, 191)] := by
      unfold tails Sw.leads sec3
      rw [if_neg (by omega), if_neg (by omega), if_neg (by omega)]
      by_cases h1 : c = 224
      · rw [if_pos h1, if_pos h1]; rfl
      rw [if_neg h1, if_neg h1]
      by_cases h2 : c = 237
      · rw [if_pos h2, if_pos h2]; rfl
      rw [if_neg h2, if_neg h2, if_pos (by omega)]
      rfl
    refine ⟨_, rfl, c, rfl, fun p hp => ⟨two_le', fun p2 hp2 => ⟨two_le', fun q hq => kS _ hl _ q (((same_upd hp).trans (same_upd hp2)).trans (same_upd hq)) (pairs2 ?_ upd_same hq)⟩⟩⟩
    exact same_upd hp2 _ _ upd_same
  refine rd_chain (c := (c : Int)) rfl (iteD (fun e4 => ?_) (fun e4 => ?_))
  · have hl : tails c = some [sec4 c, (128, 191), (128, 191)] := by
      unfold tails Sw.leads sec4
      rw [if_neg (by omega), if_neg (by omega), if_neg (by omega), if_neg (by omega), if_neg (by omega), if_neg (by omega)]
      by_cases h1 : c = 240
      · rw [if_pos h1, if_pos h1]; rfl
      rw [if_neg h1, if_neg h1]
      by_cases h2 : c = 244
      · rw [if_neg (by omega), if_pos h2, if_pos h2]; rfl
      rw [if_neg h2, if_neg h2, if_pos (by omega)]
      rfl
    refine ⟨_, rfl, c, rfl, fun p hp => ⟨two_le', fun p2 hp2 => ⟨two_le', fun p3 hp3 => ⟨three_le, fun q hq => kS _ hl _ q ((((same_upd hp).trans (same_upd hp2)).trans (same_upd hp3)).trans (same_upd hq)) (pairs3 ?_ ?_ upd_same hq)⟩⟩⟩⟩
    · exact same_upd hp3 _ _ (same_upd hp2 _ _ upd_same)
    · exact same_upd hp3 _ _ upd_same
  refine kN ?_
  unfold tails Sw.leads
  rw [if_neg (by omega)]
  by_cases h1 : c < 194
  · rw [if_pos h1]; rfl
  rw [if_neg h1, if_neg (by omega), if_neg (by omega), if_neg (by omega), if_neg (by omega), if_neg (by omega), if_neg (by omega), if_neg (by omega)]
  rfl
/-! broken_at -/
def brk (p : Nat) (b : Sw.Bytes) : Option Nat := match Sw.scalars p b with
  | .ok _ => none
  | .error q => some q
def run : List (Nat × Nat) → Nat → Sw.Bytes → Except Nat Sw.Bytes
  | [], _, b => .ok b
  | _ :: _, p, [] => .error p
  | t :: ts, p, c :: b => if t.1 ≤ c.toNat ∧ c.toNat ≤ t.2 then run ts (p + 1) b else .error p
theorem run_follow : ∀ (k lo hi x p : Nat) (b : Sw.Bytes), (Sw.follow k lo hi x p b).map (·.2) = run (match k with
    | 0 => []
    | k + 1 => (lo, hi) :: List.replicate k (128, 191)) p b
  | 0, lo, hi, x, p, b => rfl
  | k + 1, lo, hi, x, p, [] => rfl
  | k + 1, lo, hi, x, p, c :: b => by
    rw [Sw.follow]
    show _ = if lo ≤ c.toNat ∧ c.toNat ≤ hi then run (List.replicate k (128, 191)) (p + 1) b else .error p
    by_cases h : lo ≤ c.toNat ∧ c.toNat ≤ hi
    · rw [if_pos h, if_pos h, run_follow k]
      cases k <;> rfl
    · rw [if_neg h, if_neg h]
      rfl
theorem run_len : ∀ (ts : List (Nat × Nat)) (p : Nat) (b r : Sw.Bytes), run ts p b = .ok r → r = b.drop ts.length ∧ ts.length ≤ b.length
  | [], p, b, r, h => by
    injection h with h
    exact ⟨h.symm, Nat.zero_le _⟩
  | t :: ts, p, [], r, h => by cases h
  | t :: ts, p, c :: b, r, h => by
    rw [run] at h
    split at h
    · obtain ⟨e, l⟩ := run_len ts _ _ _ h
      exact ⟨by rw [e]; rfl, by simp only [List.length_cons]; omega⟩
    · cases h
theorem brk_nil (p : Nat) : brk p [] = none := rfl
theorem brk_none {p : Nat} {c : UInt8} {b : Sw.Bytes} (h : tails c.toNat = none) : brk p (c :: b) = some p := by
  have e : Sw.leads c.toNat = none := by
    unfold tails at h
    cases q : Sw.leads c.toNat with
    | none => rfl
    | some x => rw [q] at h; cases h
  unfold brk
  rw [Rd.scalars_cons, Sw.scalarAt, e]
theorem brk_some {p : Nat} {c : UInt8} {b : Sw.Bytes} {ts : List (Nat × Nat)} (h : tails c.toNat = some ts) : brk p (c :: b) = match run ts (p + 1) b with
    | .error q => some q
    | .ok r => brk (p + 1 + ts.length) r := by
  obtain ⟨k, lo, hi, e, et⟩ : ∃ k lo hi, Sw.leads c.toNat = some (k, lo, hi) ∧ ts = (match k with
      | 0 => []
      | k + 1 => (lo, hi) :: List.replicate k (128, 191)) := by
    unfold tails at h
    cases q : Sw.leads c.toNat with
    | none => rw [q] at h; cases h
    | some x =>
      rw [q] at h
      obtain ⟨k, lo, hi⟩ := x
      exact ⟨k, lo, hi, rfl, (Option.some.inj h).symm⟩
  have f := run_follow k lo hi (Sw.firstBits k c.toNat) (p + 1) b
  rw [← et] at f
  unfold brk
  rw [Rd.scalars_cons, Sw.scalarAt, e]
  dsimp only
  cases q : Sw.follow k lo hi (Sw.firstBits k c.toNat) (p + 1) b with
  | error z =>
    rw [q] at f
    rw [← f]
    rfl
  | ok z =>
    obtain ⟨y, r⟩ := z
    rw [q] at f
    have f' : run ts (p + 1) b = .ok r := f.symm
    obtain ⟨l1, l2⟩ := run_len _ _ _ _ f'
    rw [f']
    have hl := congrArg List.length l1
    rw [List.length_drop] at hl
    have hp : p + ((c :: b).length - r.length) = p + 1 + ts.length := by simp only [List.length_cons]; omega
    dsimp only
    rw [hp]
    cases Sw.scalars (p + 1 + ts.length) r <;> rfl
/-- bytes as Python has them -/
def byV (b : Sw.Bytes) : List V := b.map fun c => V.int (c.toNat : Int)
theorem byV_at {b : Sw.Bytes} {i : Nat} {c : UInt8} (h : b[i]? = some c) : (byV b)[i]? = some (V.int (c.toNat : Int)) := by
  unfold byV
  rw [List.getElem?_map, h]
  rfl
theorem byV_len (b : Sw.Bytes) : (byV b).length = b.length := List.length_map ..
theorem drop_cons {b : Sw.Bytes} {i e : Nat} (h : i < e) (he : e ≤ b.length) : ∃ c, b[i]? = some c ∧ (b.take e).drop i = c :: (b.take e).drop (i + 1) := by
  have hi : i < b.length := by omega
  refine ⟨b[i], List.getElem?_eq_getElem hi, ?_⟩
  have hl : i < (b.take e).length := by rw [List.length_take]; omega
  rw [List.drop_eq_getElem_cons hl, List.getElem_take]
def spBroken (K : PySem.W.Frag) : Sp := fun vs H Q _ => ∃ (cl : Addr) (b : Sw.Bytes) (st en : Nat), vs = [.ref cl, .int (st : Int), .int (en : Int)] ∧ SqL K H cl (byV b) ∧ st ≤ en ∧ en ≤ b.length ∧
  ∀ H', Same H H' → Q (match brk st ((b.take en).drop st) with
    | none => .non
    | some q => .int (q : Int)) H'
theorem ok_broken_at (F : FnT K mg "broken_at" s_broken_at) (FT : FnT K mg "tails_of" s_tails_of) (F3 : FnT K mg "second_of_three" s_second_of_three) (F4 : FnT K mg "second_of_four" s_second_of_four) : FnOk P w K mg base CX0 3 (ga K "broken_at") (fdA K (ga K "broken_at")) ["codes", "start", "end"] (spBroken K) := by
  have GT : FnOk P w K mg base CX0 2 (ga K "tails_of") (fdA K (ga K "tails_of")) ["lead"] spTails := ok_tails_of FT F3 F4
  have bT := b_tails_of FT.f
  refine F.f.ok sc_broken_at (fun vs H Q E h => by obtain ⟨_, _, _, _, rfl, _⟩ := h; rfl) (fun cdv A outer s H vs Q E hr h => ⟨_, PSs.nox
    (pss_cons (ps_set (i := 3) sc_broken_at.nd rfl (Or.inl rfl) (pv 1))
    (pss_cons (ps_while PassesOwn.never (pt_cmpR op_lt (pv 3) (pv 2) (nomark _))
      (pss_cons (ps_set (i := 4) sc_broken_at.nd rfl (Or.inl rfl) (pe_call GT hr rfl FT.g FT.kp bT .nil pass0 (pa_cons (pe_ix ix_list (pv 0) (pv 3) (fun _ _ => rfl)) pa_nil)))
      (pss_cons (ps_if (pt_cmpR op_isN (pv 4) pe_non (nomark _)) (pss_one (ps_ret (pv 3))) pss_nil)
      (pss_cons (ps_aug (i := 3) sc_broken_at.nd rfl (Or.inl rfl) pe_int ip_add)
      (pss_one (ps_for PassesOwn.never rfl (pi_list (pv 4)) (pg_tup rfl (pgs_cons (pg_name (i := 5) sc_broken_at.nd rfl (Or.inl rfl)) (pgs_cons (pg_name (i := 6) sc_broken_at.nd rfl (Or.inl rfl)) pgs_nil)))
        (pss_cons (ps_if (PW.pt (pw_or (pt_cmpR op_eq (pv 3) (pv 2) (nomark _)) (pw_or1 (pt_not (pt_chain op_le op_le (pv 5) (pe_ix ix_list (pv 0) (pv 3) (fun _ _ => rfl)) (pv 6)))))) (pss_one (ps_ret (pv 3))) pss_nil)
        (pss_one (ps_aug (i := 3) sc_broken_at.nd rfl (Or.inl rfl) pe_int ip_add)))))))))
    (pss_one (ps_ret pe_non)))), ?_⟩)
  obtain ⟨cl, b, st, en, rfl, hS, hse, hel, k⟩ := h
  refine ⟨_, rfl, ?_⟩
  refine while_by (fun σ H' => ∃ (at_ : Nat) (x y z : Option V), σ = [some (.ref cl), some (.int (st : Int)), some (.int (en : Int)), some (.int (at_ : Int)), x, y, z] ∧ at_ ≤ en ∧ Same H H' ∧ brk at_ ((b.take en).drop at_) = brk st ((b.take en).drop st))
    (fun σ _ => match σ with
      | [_, _, _, some (.int i), _, _, _] => en - i.toNat
      | _ => 0) ⟨st, none, none, none, rfl, hse, Same.refl _, rfl⟩ ?_ ?_
  · rintro σ H1 ⟨at_, x, y, z, rfl, hat, hs, hb⟩
    refine ⟨_, rfl, _, rfl, _, _, rfl, rfl, _, rfl, iteD (fun e1 => ?_) (fun e1 => ?_)⟩
    · have hlt : at_ < en := by omega
      obtain ⟨c, hc, hd⟩ := drop_cons hlt hel
      rw [hd] at hb
      have hSH := hs.seq hS
      refine ⟨_, rfl, _, rfl, cl, byV b, (at_ : Int), _, rfl, rfl, hSH, atI_nat (byV_at hc), c.toNat, rfl, fun hn => ?_, fun ts ht H2 l hs2 hp => ?_⟩
      · refine ⟨_, rfl, rfl, _, rfl, iteT ⟨_, rfl, ?_⟩⟩
        rw [brk_none hn] at hb
        have q := k H1 hs
        rw [← hb] at q
        exact q
      refine ⟨_, rfl, rfl, _, rfl, ?_⟩
      refine iteF ⟨_, rfl, _, _, rfl, rfl, ?_⟩
      rw [brk_some ht] at hb
      obtain ⟨as, hl, hlen, hat2⟩ := hp
      have s2 := hs.trans hs2
      have hSH2 := s2.seq hS
      refine ⟨_, rfl, l, rfl, ⟨_, SqL.of hl⟩, for_list (K := K) (a := l) (xs := as.map V.ref) (fun i σ H' => ∃ (y z : Option V), σ = [some (.ref cl), some (.int (st : Int)), some (.int (en : Int)), some (.int ((at_ + 1 + i : Nat) : Int)), some (.ref l), y, z] ∧ at_ + 1 + i ≤ en ∧ Same H2 H' ∧
        run (ts.drop i) (at_ + 1 + i) ((b.take en).drop (at_ + 1 + i)) = run ts (at_ + 1) ((b.take en).drop (at_ + 1))) ⟨y, z, rfl, by omega, Same.refl _, rfl⟩ (fun i σ H' _ ⟨_, _, _, _, q, _⟩ => SqL.of (q _ _ hl)) ?_ ?_⟩
      · rintro i v σ H3 hi ⟨y, z, rfl, hle, s3, hr3⟩
        obtain ⟨a, ha, rfl⟩ : ∃ a, as[i]? = some a ∧ v = V.ref a := by
          rw [List.getElem?_map] at hi
          cases e : as[i]? with
          | none => rw [e] at hi; cases hi
          | some z => rw [e] at hi; exact ⟨z, rfl, (Option.some.inj hi).symm⟩
        have hi2 : i < ts.length := by
          have := (List.getElem?_eq_some_iff.mp ha).1
          omega
        obtain ⟨t, ht2⟩ : ∃ t, ts[i]? = some t := ⟨_, List.getElem?_eq_getElem hi2⟩
        have hta := s3 _ _ (hat2 i a t ha ht2)
        have hdr : ts.drop i = t :: ts.drop (i + 1) := by
          rw [List.drop_eq_getElem_cons hi2]
          congr 1
          exact (List.getElem?_eq_some_iff.mp ht2).2
        refine ⟨a, _, rfl, SqT.of hta, rfl, _, _, rfl, _, _, rfl, rfl, ?_⟩
        refine ⟨_, rfl, _, rfl, rfl, _, rfl, ?_⟩
        rw [dec_int]
        rw [hdr] at hr3
        refine iteD (fun e4 => iteT ⟨_, rfl, ?_⟩) (fun e4 => ?_)
        · have e5 : at_ + 1 + i = en := by omega
          have hz : (b.take en).drop (at_ + 1 + i) = [] := by apply List.drop_eq_nil_of_le; rw [List.length_take]; omega
          rw [hz, run] at hr3
          rw [← hr3] at hb
          have q := k H3 (s2.trans s3)
          rw [← hb] at q
          exact q
        · have hlt3 : at_ + 1 + i < en := by omega
          obtain ⟨c3, hc3, hd3⟩ := drop_cons hlt3 hel
          rw [hd3, run] at hr3
          have hSH3 := (s2.trans s3).seq hS
          refine ⟨_, rfl, _, rfl, _, rfl, cl, byV b, ((at_ + 1 + i : Nat) : Int), _, rfl, rfl, hSH3, atI_nat (byV_at hc3), (t.1 : Int), (c3.toNat : Int), rfl, rfl, _, rfl, ?_⟩
          have good : (t.1 ≤ c3.toNat ∧ c3.toNat ≤ t.2) → run (ts.drop (i + 1)) (at_ + 1 + i + 1) ((b.take en).drop (at_ + 1 + i + 1)) = run ts (at_ + 1) ((b.take en).drop (at_ + 1)) := fun g => by
            rw [if_pos g] at hr3
            exact hr3
          have bad : ¬ (t.1 ≤ c3.toNat ∧ c3.toNat ≤ t.2) → Q (.int ((at_ + 1 + i : Nat) : Int)) H3 := fun g => by
            rw [if_neg g] at hr3
            rw [← hr3] at hb
            have q := k H3 (s2.trans s3)
            rw [← hb] at q
            exact q
          refine iteD (fun g1 => ⟨_, rfl, _, _, rfl, rfl, _, rfl, ?_⟩) (fun g1 => ⟨_, rfl, iteT ⟨_, rfl, bad (by omega)⟩⟩)
          by_cases g2 : (c3.toNat : Int) ≤ (t.2 : Int)
          · rw [decide_eq_true g2]
            refine iteF ⟨_, rfl, _, _, rfl, rfl, ?_⟩
            exact ⟨some (.int (t.1 : Int)), some (.int (t.2 : Int)), rfl, by omega, s3, good (by omega)⟩
          · rw [decide_eq_false g2]
            exact iteT ⟨_, rfl, bad (by omega)⟩
      · rintro σ H3 ⟨y, z, rfl, hle, s3, hr3⟩
        rw [List.length_map, hlen] at hle hr3 ⊢
        rw [List.drop_length, run] at hr3
        rw [← hr3] at hb
        refine ⟨⟨at_ + 1 + ts.length, _, _, _, rfl, hle, s2.trans s3, hb⟩, ?_⟩
        show en - ((at_ + 1 + ts.length : Nat) : Int).toNat < en - ((at_ : Nat) : Int).toNat
        omega
    · have : at_ = en := by omega
      subst this
      have hz : (b.take at_).drop at_ = [] := by apply List.drop_eq_nil_of_le; rw [List.length_take]; omega
      rw [hz, brk_nil] at hb
      have q := k H1 hs
      rw [← hb] at q
      exact q
  · exact fun σ H Q Q' h ⟨v, e, u, e2, i, j, e3, e4, k, e5, q⟩ => ⟨v, e, u, e2, i, j, e3, e4, k, e5, h _ _ q⟩
end
end Hs
end
section
set_option Elab.async false
set_option linter.all false
set_option maxRecDepth 100000
set_option maxHeartbeats 2000000
namespace Hs
open PySem PySem.Spec PyProof.Rows L2
/-! ### spelling -/
def smallT : Str := "abcdefghijklmnopqrstuvwxyz"
def largeT : Str := "ABCDEFGHIJKLMNOPQRSTUVWXYZ"
def figT : Str := "0123456789"
def cmpT : Str := "=!<>+-*/"
def plainT : Str := smallT ++ largeT ++ figT ++ "_" ++ cmpT
/-- the plain signs' codes -/
def plainL : List Nat := plainT.cps.toList
theorem plainL_eq : plainL = [97, 98, 99, 100, 101, 102, 103, 104, 105, 106, 107, 108, 109, 110, 111, 112, 113, 114, 115, 116, 117, 118, 119, 120, 121, 122, 65, 66, 67, 68, 69, 70, 71, 72, 73, 74, 75, 76, 77, 78, 79, 80, 81, 82, 83, 84, 85, 86, 87, 88, 89, 90, 48, 49, 50, 51, 52, 53, 54, 55, 56, 57, 95, 61, 33, 60, 62, 43, 45, 42, 47] := by decide +kernel
def one (c : Nat) : Str := ⟨#[c]⟩
def signsK (l : List Nat) : List (Key × V) := l.map fun (c : Nat) => (Sum.inl (c : Int), V.str (one c))
theorem signs_val : ∀ (l : List Nat) (c : Nat), valV (signsK l) (Sum.inl (c : Int)) = if c ∈ l then some (V.str (one c)) else none
  | [], c => by simp [signsK, valV]
  | d :: l, c => by
    show valV ((Sum.inl (d : Int), V.str (one d)) :: signsK l) (Sum.inl (c : Int)) = _
    by_cases e : d = c
    · subst e
      rw [valV_pos rfl, if_pos (List.mem_cons_self ..)]
    · rw [valV_neg (fun q => e (by have := Sum.inl.inj q; omega)), signs_val l c]
      by_cases h : c ∈ l
      · rw [if_pos h, if_pos (List.mem_cons_of_mem _ h)]
      · rw [if_neg h, if_neg (fun q => by
          rcases List.mem_cons.mp q with q | q
          · exact e q.symm
          · exact h q)]
theorem signs_put {l : List Nat} {c : Nat} (h : c ∉ l) : putK (signsK l) (Sum.inl (c : Int)) (V.str (one c)) = signsK (l ++ [c]) := by
  unfold putK
  rw [if_neg]
  · unfold signsK
    rw [List.map_append]
    rfl
  · intro q
    rw [List.any_eq_true] at q
    obtain ⟨x, hx, e⟩ := q
    unfold signsK at hx
    rw [List.mem_map] at hx
    obtain ⟨d, hd, rfl⟩ := hx
    have e' : (d : Int) = c := Sum.inl.inj (of_decide_eq_true e)
    have : d = c := by omega
    subst this
    exact h hd
structure TSp (K : PySem.W.Frag) (mg : Str → Option Value) : Prop where
  plain_signs : FnT K mg "plain_signs" s_plain_signs
  spelled : FnT K mg "spelled" s_spelled
  SMALL : StrT mg "SMALL" smallT
  LARGE : StrT mg "LARGE" largeT
  FIGURES : StrT mg "FIGURES" figT
  COMPARING : StrT mg "COMPARING" cmpT
  ord : mg "ord" = none
def spPlain : Sp := fun vs H Q _ => vs = [] ∧ ∀ H' p, Same H H' → H' p = some (.dK (signsK plainL)) → Q (.ref p) H'
section
variable {P : Program} {w : World} {K : PySem.W.Frag} {mg : Str → Option Value} {base : Heap}
theorem take_more {α : Type} {l : List α} {i : Nat} {x : α} (h : l[i]? = some x) : l.take (i + 1) = l.take i ++ [x] := by
  rw [List.take_succ, h]
  rfl
theorem plain_size : plainT.cps.size = 71 := by decide +kernel
theorem plain_nodup : plainL.Nodup := by rw [plainL_eq]; decide +kernel
theorem not_in_take {l : List Nat} (n : l.Nodup) {i c : Nat} (h : l[i]? = some c) : c ∉ l.take i := by
  intro q
  have e : l = l.take i ++ c :: l.drop (i + 1) := by
    have hi := (List.getElem?_eq_some_iff.mp h).1
    have hd := List.drop_eq_getElem_cons hi
    have := (List.getElem?_eq_some_iff.mp h).2
    rw [this] at hd
    rw [← hd, List.take_append_drop]
  rw [e, List.nodup_append] at n
  exact n.2.2 c q c (List.mem_cons_self ..) rfl
theorem ok_plain_signs (T : TSp K mg) : FnOk P w K mg base CX0 1 (ga K "plain_signs") (fdA K (ga K "plain_signs")) [] spPlain := by
  refine T.plain_signs.f.ok sc_plain_signs (fun vs H Q E h => by obtain ⟨rfl, _⟩ := h; rfl) (fun cdv A outer s H vs Q E hr h => ⟨_, PSs.nox
    (pss_cons (ps_set (i := 0) sc_plain_signs.nd rfl (Or.inl rfl) pe_dnewK)
    (pss_cons (ps_for PassesOwn.never rfl (pi_str (pe_op op_add_str (pe_op op_add_str (pe_op op_add_str (pe_op op_add_str (pe_strT T.SMALL) (pe_strT T.LARGE)) (pe_strT T.FIGURES)) pe_str) (pe_strT T.COMPARING))) (pg_name (i := 1) sc_plain_signs.nd rfl (Or.inl rfl))
      (pss_one (ps_dput (hu_of hr) (pv 0) (pe_callB call_ord rfl T.ord (by decide +kernel) (pa_cons (pv 1) pa_nil)) (pv 1) rfl)))
    (pss_one (ps_ret (pv 0))))), ?_⟩)
  obtain ⟨rfl, k⟩ := h
  intro d hd
  refine ⟨_, _, rfl, rfl, by decide +kernel, _, _, rfl, rfl, by decide +kernel, _, _, rfl, rfl, by decide +kernel, _, _, rfl, rfl, by decide +kernel, _, rfl, ?_⟩
  refine for_it (walk_str (z := plainT)) (fun i σ H' => ∃ x, σ = [some (.ref d), x] ∧ H' = upd H d (.dK (signsK (plainL.take i)))) ⟨none, rfl, rfl⟩ (fun _ _ _ _ _ => trivial) ?_ ?_
  · rintro i v σ H1 H2 hi ⟨x, rfl, rfl⟩ ⟨rfl, c, hc, rfl⟩
    have hc' : plainL[i]? = some c := by
      unfold plainL
      rw [Array.getElem?_toList]
      exact hc
    refine ⟨_, rfl, _, rfl, _, rfl, _, rfl, rfl, d, _, rfl, DPut.k (k := Sum.inl (c : Int)) upd_same ?_, ?_⟩
    · unfold signsK
      rw [List.length_map, List.length_take]
      have : sizeLine = 16777216 := sizeLine_eq
      rw [plain_size] at hi
      omega
    · refine ⟨_, rfl, ?_⟩
      rw [upd_upd]
      show upd H d (.dK (putK (signsK (plainL.take i)) (Sum.inl (c : Int)) (V.str (one c)))) = _
      rw [signs_put (not_in_take plain_nodup hc'), take_more hc']
  · rintro σ H1 ⟨x, rfl, rfl⟩
    refine ⟨_, rfl, k _ d (same_upd hd) ?_⟩
    have : plainL.take plainT.cps.size = plainL := by
      unfold plainL
      rw [← Array.length_toList, List.take_length]
    rw [this]
    exact upd_same
theorem str_len (a b : Str) : (a ++ b).length = a.length + b.length := by
  show (a.cps ++ b.cps).size = a.cps.size + b.cps.size
  rw [Array.size_append]
theorem yesT {σ : L2.St} {H : Hp} {A B : Hp → Prop} (h : A H) : tYes σ H (fun b H' => if b = true then A H' else B H') := by
  show if true = true then A H else B H
  rw [if_pos rfl]
  exact h
/-- a byte as it is spelled -/
def sp1 (c : UInt8) : Str := if c.toNat ∈ plainL then one c.toNat else Str.empty ++ Str.ofString "#" ++ Str.ofString (toString (c.toNat : Int)) ++ Str.ofString ";"
def spell (b : Sw.Bytes) : Str := Txt.join (Str.ofString "") (b.map sp1)
theorem sp1_len : ∀ c : UInt8, (sp1 c).length ≤ 5 := by
  have h : ∀ n : Fin 256, (sp1 (UInt8.ofNat n.val)).length ≤ 5 := by decide +kernel
  intro c
  have := h ⟨c.toNat, c.toNat_lt⟩
  rw [show UInt8.ofNat c.toNat = c from UInt8.ofNat_toNat] at this
  exact this
theorem sp1_sum : ∀ b : Sw.Bytes, ((b.map sp1).map (·.length)).sum ≤ 5 * b.length
  | [] => by simp
  | c :: b => by
    have ih := sp1_sum b
    have := sp1_len c
    simp only [List.map_cons, List.sum_cons, List.length_cons]
    omega
def spSpelled (K : PySem.W.Frag) : Sp := fun vs H Q _ => ∃ (sg cl : Addr) (b : Sw.Bytes), vs = [.ref sg, .ref cl] ∧ H sg = some (.dK (signsK plainL)) ∧ SqL K H cl (byV b) ∧ b.length ≤ 100000 ∧ ∀ H', Same H H' → Q (.str (spell b)) H'
theorem ok_spelled (T : TSp K mg) : FnOk P w K mg base CX0 1 (ga K "spelled") (fdA K (ga K "spelled")) ["signs", "codes"] (spSpelled K) := by
  refine T.spelled.f.ok sc_spelled (fun vs H Q E h => by obtain ⟨_, _, _, rfl, _⟩ := h; rfl) (fun cdv A outer s H vs Q E hr h => ⟨_, PSs.nox
    (pss_one (ps_ret (pe_join pe_str (pe_lc (own := [("code", 2)]) (g := gName 2) (tt := tYes) rfl sc_spelled.nd (pi_list (pv 1)) (blkOk_by (N := N_spelled) (sc := defScope s_spelled) (by decide +kernel)) (fun _ _ _ _ _ => pg_name (i := 2) sc_spelled.nd rfl (Or.inl rfl)) (fun _ _ _ _ _ => pts_nil)
      (fun _ _ _ _ _ => pe_ifExp (pt_cmp (pc_din (hu_of hr) (pv 2) (pv 0))) (pe_dget (hu_of hr) (pv 0) (pv 2) (fun _ _ => rfl)) (pe_joined (.cons pe_str (.cons (pe_fmt (pv 2)) (.cons pe_str .nil))))))))), ?_⟩)
  obtain ⟨sg, cl, b, rfl, hsg, hS, hb, k⟩ := h
  refine ⟨⟨_, rfl⟩, _, rfl, cl, rfl, ⟨_, hS⟩, fun D hD => lc_list (xs := byV b) (fun i H' => ∃ H0, H' = upd H0 D (.lst ((b.take i).map fun c => V.str (sp1 c))) ∧ H0 = H) ⟨H, rfl, rfl⟩ (fun i H' _ q => ?_) ?_ ?_⟩
  · obtain ⟨_, rfl, rfl⟩ := q
    exact (same_upd hD).seq hS
  · rintro i v H1 hi ⟨H0, rfl, rfl⟩
    obtain ⟨c, hc, rfl⟩ : ∃ c, b[i]? = some c ∧ v = V.int (c.toNat : Int) := by
      unfold byV at hi
      rw [List.getElem?_map] at hi
      cases e : b[i]? with
      | none => rw [e] at hi; cases hi
      | some z => rw [e] at hi; exact ⟨z, rfl, (Option.some.inj hi).symm⟩
    have hil := (List.getElem?_eq_some_iff.mp hc).1
    have hsg' : upd H0 D (.lst ((b.take i).map fun c => V.str (sp1 c))) sg = some (.dK (signsK plainL)) := same_upd hD _ _ hsg
    have hlen : ((b.take i).map fun c => V.str (sp1 c)).length < sizeLine := by
      rw [List.length_map, List.length_take, sizeLine_eq]
      omega
    have fin : ∃ H', upd (upd H0 D (.lst ((b.take i).map fun c => V.str (sp1 c)))) D (.lst (((b.take i).map fun c => V.str (sp1 c)) ++ [V.str (sp1 c)])) = upd H' D (.lst ((b.take (i + 1)).map fun c => V.str (sp1 c))) ∧ H' = H0 := by
      refine ⟨H0, ?_, rfl⟩
      rw [upd_upd, take_more hc, List.map_append]
      rfl
    refine ⟨rfl, yesT ⟨_, rfl, _, rfl, sg, _, rfl, DGet.k (k := Sum.inl (c.toNat : Int)) hsg', _, rfl, ?_⟩⟩
    rw [signs_val]
    by_cases hp : c.toNat ∈ plainL
    · rw [if_pos hp]
      refine iteT ⟨_, rfl, _, rfl, sg, V.str (one c.toNat), rfl, ?_, ?_⟩
      · have q := DGet.k (k := Sum.inl (c.toNat : Int)) hsg'
        rw [signs_val, if_pos hp] at q
        exact q
      · have e : sp1 c = one c.toNat := by unfold sp1; rw [if_pos hp]
        rw [e] at fin
        exact ⟨_, upd_same, hlen, fin⟩
    · rw [if_neg hp]
      have e : sp1 c = Str.empty ++ Str.ofString "#" ++ Str.ofString (toString (c.toNat : Int)) ++ Str.ofString ";" := by unfold sp1; rw [if_neg hp]
      have l5 := sp1_len c
      have hz : sizeLine = 16777216 := sizeLine_eq
      have l3 : (Str.empty ++ Str.ofString "#" ++ Str.ofString (toString (c.toNat : Int))).length ≤ (sp1 c).length := by
        have q := str_len (Str.empty ++ Str.ofString "#" ++ Str.ofString (toString (c.toNat : Int))) (Str.ofString ";")
        rw [e]
        omega
      have l2 : (Str.empty ++ Str.ofString "#").length ≤ 5 := by decide +kernel
      have hlog : (c.toNat : Int).natAbs.log2 < 1920 := by
        have := c.toNat_lt
        have h8 : c.toNat.log2 < 8 + 1 := by
          by_cases z : c.toNat = 0
          · rw [z]; decide
          · have := (Nat.log2_lt z (k := 9)).mpr (by omega)
            omega
        show c.toNat.log2 < 1920
        omega
      refine iteF ⟨_, rfl, by omega, _, rfl, .inr ⟨_, rfl, hlog, _, rfl, by omega, _, rfl, ?_, ?_⟩⟩
      · rw [← e]; omega
      · rw [← e]
        exact ⟨_, upd_same, hlen, fin⟩
  · rintro H1 ⟨H0, rfl, rfl⟩
    rw [byV_len, List.take_length]
    refine ⟨Str.ofString "", D, b.map sp1, rfl, rfl, .inl (SqL.of ?_), ?_, ?_⟩
    · rw [List.map_map]
      exact upd_same
    · have := sp1_sum b
      have e : (Str.ofString "").length = 0 := rfl
      rw [e]
      omega
    · exact k _ (same_upd hD)
end
end Hs
end
section
set_option Elab.async false
set_option linter.all false
set_option maxRecDepth 100000
set_option maxHeartbeats 2000000
namespace Hs
open PySem PySem.Spec PyProof.Rows L2
/-- all but some objects are as they were -/
def SameX (S : List Addr) (H H' : Hp) : Prop := ∀ b o, b ∉ S → H b = some o → H' b = some o
theorem SameX.refl (S : List Addr) (H : Hp) : SameX S H H := fun _ _ _ h => h
theorem SameX.trans {S : List Addr} {H H1 H2 : Hp} (a : SameX S H H1) (b : SameX S H1 H2) : SameX S H H2 := fun c o n h => b c o n (a c o n h)
theorem SameX.mono {S S' : List Addr} {H H' : Hp} (a : SameX S H H') (h : ∀ b ∈ S, b ∈ S') : SameX S' H H' := fun c o n q => a c o (fun z => n (h c z)) q
theorem SameX.of {S : List Addr} {H H' : Hp} (a : Same H H') : SameX S H H' := fun c o _ q => a c o q
theorem SameX.same {H H' : Hp} (a : SameX [] H H') : Same H H' := fun c o q => a c o (by simp) q
theorem samex_upd {S : List Addr} {H : Hp} {p : Addr} {o : HO} (h : p ∈ S) : SameX S H (upd H p o) := fun b u n q => by
  rw [upd_ne (show b ≠ p from fun e => n (by rw [e]; exact h))]
  exact q
theorem SameX.seq {S : List Addr} {H H' : Hp} {a : Addr} {xs : List V} {K : PySem.W.Frag} (e : SameX S H H') (n : a ∉ S) (h : SqL K H a xs) : SqL K H' a xs := by
  rcases h with (h | ⟨o, h⟩) | h
  · exact .inl (.inl (e _ _ n h))
  · exact .inl (.inr ⟨o, e _ _ n h⟩)
  · exact .inr h
/-- the error is wanted with this kind and place, whatever else is new -/
def Flts (CF : Addr) (E : XK) (S : List Addr) (H : Hp) (k p : Int) : Prop := ∀ H' d, SameX S H H' → H' d = some (.xd (fltD (.int k) (.int p))) → E (.ref CF) (some d) H'
theorem Flts.from {CF : Addr} {E : XK} {S : List Addr} {H H1 : Hp} {k p : Int} (f : Flts CF E S H k p) (s : SameX S H H1) : Flts CF E S H1 k p := fun H' d s' e => f H' d (s.trans s') e
theorem Flts.less {CF : Addr} {E : XK} {S S' : List Addr} {H : Hp} {k p : Int} (f : Flts CF E S H k p) (h : ∀ b ∈ S', b ∈ S) : Flts CF E S' H k p := fun H' d s' e => f H' d (s'.mono h) e
structure TFa (K : PySem.W.Frag) (mg : Str → Option Value) : Prop where
  flt : PySem.FltX.FltTxt K mg (ga K "Fault") (ma K "Fault" "__init__")
  need : FnT K mg "need" s_need
  NO_PROGRAM : IntT mg "NO_PROGRAM" 1
abbrev CF (K : PySem.W.Frag) : Addr := ga K "Fault"
def spNeed (K : PySem.W.Frag) : Sp := fun vs H Q E => ∃ (g : Bool) (p : Int), vs = [.bl g, .int p] ∧ (g = true → Q .non H) ∧ (g = false → Flts (CF K) E [] H 1 p)
section
variable {P : Program} {w : World} {K : PySem.W.Frag} {mg : Str → Option Value} {base : Heap}
theorem ok_need (T : TFa K mg) : FnOk P w K mg base (L2.CX P w) 1 (ga K "need") (fdA K (ga K "need")) ["good", "place"] (spNeed K) := by
  refine T.need.f.okX sc_need (fun vs H Q E h => by obtain ⟨_, _, rfl, _⟩ := h; rfl) (fun cdv A outer s H vs Q E hr h => ⟨_,
    (pss_one (ps_if (pt_not (pt_val (pv 0))) (pss_one (ps_raiseFlt (W := fun cls d _ H => E cls d H) rfl T.flt hr (takes_of rfl rfl rfl rfl) (by exact (pa_cons (pe_intT T.NO_PROGRAM) (pa_cons (pv 1) pa_nil))))) pss_nil)), ?_⟩)
  obtain ⟨g, p, rfl, k1, k2⟩ := h
  refine ⟨_, rfl, g, rfl, ?_⟩
  cases g with
  | true => exact iteF (k1 rfl)
  | false =>
    refine iteT ⟨_, rfl, _, _, rfl, fun d hd => ?_⟩
    exact k2 rfl _ d (SameX.of (same_upd hd)) upd_same
end
end Hs
end
section
set_option Elab.async false
set_option linter.all false
set_option maxRecDepth 100000
set_option maxHeartbeats 2000000
namespace Hs
open PySem PySem.Spec PyProof.Rows L2
structure TRd (K : PySem.W.Frag) (mg : Str → Option Value) : Prop where
  fa : TFa K mg
  sp : TSp K mg
  utf : TUtf K mg
  RawC : ClT K mg "Raw"
  RawI : MeT K "Raw" "__init__" "Raw.__init__" s_Raw___init__
  rawN : ∀ f ∈ (["kind", "place", "text", "below", "names", "members", "last_codes", "missing", "deep"] : List Str), NoAttr K (ga K "Raw") f
  RdC : ClT K mg "Reader"
  RdI : MeT K "Reader" "__init__" "Reader.__init__" s_Reader___init__
  rdN : ∀ f ∈ (["codes", "at", "signs"] : List Str), NoAttr K (ga K "Reader") f
  take : MeT K "Reader" "take" "Reader.take" s_Reader_take
  varying : MeT K "Reader" "varying" "Reader.varying" s_Reader_varying
  begin_ : MeT K "Reader" "begin" "Reader.begin" s_Reader_begin
  number_is_below : MeT K "Reader" "number_is_below" "Reader.number_is_below" s_Reader_number_is_below
  read_text : MeT K "Reader" "read_text" "Reader.read_text" s_Reader_read_text
  read_name : MeT K "Reader" "read_name" "Reader.read_name" s_Reader_read_name
  read_value : FnT K mg "read_value" s_read_value
  NUMBER : IntT mg "NUMBER" 2
  BYTES : IntT mg "BYTES" 3
  TEXT : IntT mg "TEXT" 4
  LIST : IntT mg "LIST" 5
  RECORD : IntT mg "RECORD" 6
  MOMENT : IntT mg "MOMENT" 7
  ID : IntT mg "ID" 8
  DEEPEST : IntT mg "DEEPEST" 64
  LARGEST_VARYING : IntT mg "LARGEST_VARYING" 4294967295
  LONGEST_NUMBER : IntT mg "LONGEST_NUMBER" 4096
  LONGEST_RECORD_NAME : IntT mg "LONGEST_RECORD_NAME" 255
  len : mg "len" = none
  range : mg "range" = none
  max : mg "max" = none
abbrev CR (K : PySem.W.Frag) : Addr := ga K "Reader"
def rdF (cl : Addr) (at_ : Nat) (sg : Addr) : List (Str × V) := [("codes", .ref cl), ("at", .int (at_ : Int)), ("signs", .ref sg)]
theorem rdF_codes {cl at_ sg} : (rdF cl at_ sg).lookup ("codes" : Str) = some (.ref cl) := by kernel_rfl
theorem rdF_at {cl at_ sg} : (rdF cl at_ sg).lookup ("at" : Str) = some (.int (at_ : Int)) := by kernel_rfl
theorem rdF_signs {cl at_ sg} : (rdF cl at_ sg).lookup ("signs" : Str) = some (.ref sg) := by kernel_rfl
theorem rdF_put {cl at_ sg} {n : Nat} : putF "at" (.int (n : Int)) (rdF cl at_ sg) = rdF cl n sg := by kernel_rfl
theorem rdF_take {cl at_ sg} : (rdF cl at_ sg).lookup ("take" : Str) = none := by kernel_rfl
theorem rdF_varying {cl at_ sg} : (rdF cl at_ sg).lookup ("varying" : Str) = none := by kernel_rfl
theorem rdF_begin {cl at_ sg} : (rdF cl at_ sg).lookup ("begin" : Str) = none := by kernel_rfl
theorem rdF_nib {cl at_ sg} : (rdF cl at_ sg).lookup ("number_is_below" : Str) = none := by kernel_rfl
theorem rdF_read_text {cl at_ sg} : (rdF cl at_ sg).lookup ("read_text" : Str) = none := by kernel_rfl
theorem rdF_read_name {cl at_ sg} : (rdF cl at_ sg).lookup ("read_name" : Str) = none := by kernel_rfl
/-- the reader at r, over the bytes b, at a place -/
def Rdr (K : PySem.W.Frag) (H : Hp) (r cl sg : Addr) (b : Sw.Bytes) (at_ : Nat) : Prop := (∃ dx, H r = some (.ins (CR K) dx (rdF cl at_ sg))) ∧ SqL K H cl (byV b) ∧ H sg = some (.dK (signsK plainL)) ∧ cl ≠ r ∧ sg ≠ r ∧ at_ ≤ b.length
/-- behind a method: the reader is at another place -/
def Mv (r : Addr) (H H' : Hp) : Prop := SameX [r] H H'
section
variable {P : Program} {w : World} {K : PySem.W.Frag} {mg : Str → Option Value} {base : Heap}
theorem Rdr.to {H H' : Hp} {r cl sg : Addr} {b : Sw.Bytes} {at_ at2 : Nat} (R : Rdr K H r cl sg b at_) (s : SameX [r] H H') (h : ∃ dx, H' r = some (.ins (CR K) dx (rdF cl at2 sg))) (hl : at2 ≤ b.length) : Rdr K H' r cl sg b at2 := by
  obtain ⟨_, h2, h3, h4, h5, _⟩ := R
  exact ⟨h, s.seq (by simpa using h4) h2, s _ _ (by simpa using h5) h3, h4, h5, hl⟩
theorem Rdr.same {H H' : Hp} {r cl sg : Addr} {b : Sw.Bytes} {at_ : Nat} (R : Rdr K H r cl sg b at_) (s : Same H H') : Rdr K H' r cl sg b at_ := by
  obtain ⟨⟨dx, h1⟩, h2, h3, h4, h5, h6⟩ := R
  exact ⟨⟨dx, s _ _ h1⟩, s.seq h2, s _ _ h3, h4, h5, h6⟩
theorem rdFld {i : Nat} {f : Str} {a C dx : Addr} {fs : List (Str × V)} {v : V} {σ : L2.St} {H : Hp} {Q : VK} (hs : σ[i]? = some (some (.ref a))) (h : H a = some (.ins C dx fs)) (c : Cls K C) (n : NoAttr K C f) (l : fs.lookup f = some v) (q : Q v H) : tFld K (tVar i) f σ H Q :=
  ⟨_, hs, a, C, dx, fs, v, rfl, h, c, n, l, q⟩
theorem rdCodes {i : Nat} {r cl sg : Addr} {b : Sw.Bytes} {at_ : Nat} {σ : L2.St} {H : Hp} {Q : VK} (T : TRd K mg) (R : Rdr K H r cl sg b at_) (hs : σ[i]? = some (some (.ref r))) (q : Q (.ref cl) H) : tFld K (tVar i) "codes" σ H Q := by
  obtain ⟨⟨dx, h1⟩, _⟩ := R
  exact rdFld hs h1 T.RdC.cl (T.rdN _ (by simp)) rdF_codes q
theorem rdAt {i : Nat} {r cl sg : Addr} {b : Sw.Bytes} {at_ : Nat} {σ : L2.St} {H : Hp} {Q : VK} (T : TRd K mg) (R : Rdr K H r cl sg b at_) (hs : σ[i]? = some (some (.ref r))) (q : Q (.int (at_ : Int)) H) : tFld K (tVar i) "at" σ H Q := by
  obtain ⟨⟨dx, h1⟩, _⟩ := R
  exact rdFld hs h1 T.RdC.cl (T.rdN _ (by simp)) rdF_at q
theorem rdSigns {i : Nat} {r cl sg : Addr} {b : Sw.Bytes} {at_ : Nat} {σ : L2.St} {H : Hp} {Q : VK} (T : TRd K mg) (R : Rdr K H r cl sg b at_) (hs : σ[i]? = some (some (.ref r))) (q : Q (.ref sg) H) : tFld K (tVar i) "signs" σ H Q := by
  obtain ⟨⟨dx, h1⟩, _⟩ := R
  exact rdFld hs h1 T.RdC.cl (T.rdN _ (by simp)) rdF_signs q
def spTake (K : PySem.W.Frag) : Sp := fun vs H Q E => ∃ (r cl sg : Addr) (b : Sw.Bytes) (at_ n : Nat), vs = [.ref r, .int (n : Int)] ∧ Rdr K H r cl sg b at_ ∧
  (at_ + n ≤ b.length → ∀ H', SameX [r] H H' → Rdr K H' r cl sg b (at_ + n) → Q (.int (at_ : Int)) H') ∧ (¬ at_ + n ≤ b.length → Flts (CF K) E [r] H 1 (b.length : Int))
theorem ok_take (T : TRd K mg) : FnOk P w K mg base (L2.CX P w) 2 (ma K "Reader" "take") (fdA K (ma K "Reader" "take")) ["self", "count"] (spTake K) := by
  have GN : FnOk P w K mg base (L2.CX P w) 1 (ga K "need") (fdA K (ga K "need")) ["good", "place"] (spNeed K) := ok_need T.fa
  have bN := b_need T.fa.need.f
  refine T.take.f.okX sc_Reader_take (fun vs H Q E h => by obtain ⟨_, _, _, _, _, _, rfl, _⟩ := h; rfl) (fun cdv A outer s H vs Q E hr h => ⟨_,
    (pss_cons (ps_expr (pe_call GN hr rfl T.fa.need.g T.fa.need.kp bN .nil (passes_call (takes_of (E := E) rfl rfl rfl rfl) (fun _ _ _ _ h => h))
      (pa_cons (pe_cmpR op_le (pv 1) (pe_op op_sub (pe_callB call_len (by rfl) T.len PySem.boot_len (pa_cons (pe_fld (pv 0) rfl) pa_nil)) (pe_fld (pv 0) rfl)) (nomark _)) (pa_cons (pe_callB call_len (by rfl) T.len PySem.boot_len (pa_cons (pe_fld (pv 0) rfl) pa_nil)) pa_nil))))
    (pss_cons (ps_fldaug (pv 0) (pv 1) in_add)
    (pss_one (ps_ret (pe_op op_sub (pe_fld (pv 0) rfl) (pv 1)))))), ?_⟩)
  obtain ⟨r, cl, sg, b, at_, n, rfl, R, k1, k2⟩ := h
  have h2 := R.2.1
  have lenIs : ∀ {H' : Hp}, SqL K H' cl (byV b) → LenV K (.ref cl) H' b.length := fun {H'} q => .inl ⟨_, q, (byV_len b).symm⟩
  refine rdCodes (i := 0) T R rfl ⟨_, b.length, rfl, lenIs h2, rdAt (i := 0) T R rfl ?_⟩ |> fun z => ⟨_, rfl, z⟩
  refine ⟨_, _, rfl, rfl, _, _, rfl, rfl, ?_⟩
  refine rdCodes (i := 0) T R rfl ⟨_, b.length, rfl, lenIs h2, ?_⟩
  refine ⟨_, _, rfl, fun hg => ?_, fun hg => ?_⟩
  · have hle : at_ + n ≤ b.length := by
      have q := of_decide_eq_true hg
      have := R.2.2.2.2.2
      omega
    obtain ⟨⟨dx, h1⟩, _⟩ := id R
    refine ⟨_, rfl, r, _, dx, _, _, rfl, h1, T.RdC.cl, T.rdN _ (by simp), rdF_at, _, rfl, _, _, rfl, rfl, dx, _, h1, (by show 3 < 1000; decide), ?_⟩
    have e : putF "at" (V.int ((at_ : Int) + (n : Int))) (rdF cl at_ sg) = rdF cl (at_ + n) sg := by
      rw [← rdF_put (at_ := at_)]
      rfl
    rw [e]
    have s1 : SameX [r] H (upd H r (.ins (CR K) dx (rdF cl (at_ + n) sg))) := samex_upd (by simp)
    have R' := R.to s1 ⟨dx, upd_same⟩ hle
    change tOp _ (tFld K (tVar 0) "at") (tVar 1) _ _ _
    refine rdAt (i := 0) T R' (by rfl) ?_
    refine ⟨_, rfl, _, _, rfl, rfl, ?_⟩
    have q := k1 hle _ s1 R'
    have e2 : (((at_ + n : Nat) : Int) - (n : Int)) = (at_ : Int) := by omega
    show Q (.int (((at_ + n : Nat) : Int) - (n : Int))) _
    rw [e2]
    exact q
  · have hle : ¬ at_ + n ≤ b.length := by
      have q := of_decide_eq_false hg
      omega
    exact (k2 hle).less (by simp)
abbrev tkE (E : XK) : WX := fun cls d _ H => E cls d H
def spVarying (K : PySem.W.Frag) : Sp := fun vs H Q E => ∃ (r cl sg : Addr) (b : Sw.Bytes) (at_ : Nat), vs = [.ref r] ∧ Rdr K H r cl sg b at_ ∧
  (∀ n l, Rd.vgo 5 0 0 (b.drop at_) = .ok (n, l) → ∀ H', SameX [r] H H' → Rdr K H' r cl sg b (at_ + l) → Q (.int (n : Int)) H') ∧
  (Rd.vgo 5 0 0 (b.drop at_) = .error true → Flts (CF K) E [r] H 1 (b.length : Int)) ∧ (Rd.vgo 5 0 0 (b.drop at_) = .error false → Flts (CF K) E [r] H 1 (at_ : Int))
theorem ok_varying (T : TRd K mg) : FnOk P w K mg base (L2.CX P w) 3 (ma K "Reader" "varying") (fdA K (ma K "Reader" "varying")) ["self"] (spVarying K) := by
  have GN : FnOk P w K mg base (L2.CX P w) 1 (ga K "need") (fdA K (ga K "need")) ["good", "place"] (spNeed K) := ok_need T.fa
  have bN := b_need T.fa.need.f
  have GT : FnOk P w K mg base (L2.CX P w) 2 (ma K "Reader" "take") (fdA K (ma K "Reader" "take")) ["self", "count"] (spTake K) := ok_take T
  have bT := b_Reader_take T.take.f
  refine T.varying.f.okX sc_Reader_varying (fun vs H Q E h => by obtain ⟨_, _, _, _, _, rfl, _⟩ := h; rfl) (fun cdv A outer s H vs Q E hr h => ⟨_,
    (pss_cons (ps_set (i := 1) sc_Reader_varying.nd rfl (Or.inl rfl) (pe_fld (pv 0) rfl))
    (pss_cons (ps_set (i := 2) sc_Reader_varying.nd rfl (Or.inl rfl) pe_int)
    (pss_cons (ps_for (passes_of rfl) rfl (pi_range1 rfl T.range (pa_cons pe_int pa_nil)) (pg_name (i := 3) sc_Reader_varying.nd rfl (Or.inl rfl))
      (pss_cons (ps_set (i := 4) sc_Reader_varying.nd rfl (Or.inl rfl) (pe_ix ix_list (pe_fld (pv 0) rfl) (pe_meth (pv 0) T.RdC.cl T.take.me GT hr bT .nil (passes_call (takes_of (E := E) rfl rfl rfl rfl) (fun _ _ _ _ h => h)) (pa_cons pe_int pa_nil)) (fun _ _ => rfl)))
      (pss_cons (ps_aug (i := 2) sc_Reader_varying.nd rfl (Or.inl rfl) (pe_op op_shl (pe_op op_and (pv 4) pe_int) (pe_op op_mul pe_int (pv 3))) ip_add)
      (pss_one (ps_if (pt_cmpR op_lt (pv 4) pe_int (nomark _))
        (pss_cons (ps_expr (pe_call GN (hr.mono (by decide)) rfl T.fa.need.g T.fa.need.kp bN .nil (passes_call (takes_of (E := E) rfl rfl rfl rfl) (fun _ _ _ _ h => h))
            (pa_cons (pe_and (pe_or (pe_cmpR op_gt (pv 4) pe_int (nomark _)) (pe_one (pe_cmpR op_eq (pv 3) pe_int (nomark _)))) (pe_one (pe_cmpR op_le (pv 2) (pe_intT T.LARGEST_VARYING) (nomark _)))) (pa_cons (pv 1) pa_nil))))
          (pss_one (ps_ret (pv 2)))) pss_nil)))))
    (pss_one (ps_raiseFlt (W := tkE E) rfl T.fa.flt hr (takes_of rfl rfl rfl rfl) (by exact (pa_cons (pe_intT T.fa.NO_PROGRAM) (pa_cons (pv 1) pa_nil)))))))), ?_⟩)
  obtain ⟨r, cl, sg, b, at_, rfl, R, kOk, kEnd, kBad⟩ := h
  change tFld K (tVar 0) "at" _ _ _
  refine rdAt (i := 0) T R (by rfl) ?_
  refine ⟨5, rfl, by decide, by decide, for_range (lo := 0) (n := 5) (fun i σ H' => ∃ (num : Nat) (x y : Option V), σ = [some (.ref r), some (.int (at_ : Int)), some (.int (num : Int)), x, y] ∧ Rdr K H' r cl sg b (at_ + i) ∧ SameX [r] H H' ∧ num < 128 ^ i ∧
    Rd.vgo (5 - i) i num (b.drop (at_ + i)) = Rd.vgo 5 0 0 (b.drop at_)) ⟨0, none, none, rfl, R, SameX.refl _ _, by decide, rfl⟩ ?_ ?_⟩
  · rintro i σ H1 hi ⟨num, x, y, rfl, R1, s1, hnum, hv⟩
    dsimp only [gName, tSeq, tAsg, tOp]
    refine rdCodes (i := 0) T R1 (by rfl) ?_
    obtain ⟨⟨dx, h1⟩, _⟩ := id R1
    refine ⟨_, rfl, r, dx, _, rfl, h1, rdF_take, r, cl, sg, b, at_ + i, 1, rfl, R1, fun hle H2 s2 R2 => ?_, fun hle => ?_⟩
    · obtain ⟨c, hc⟩ : ∃ c, b[at_ + i]? = some c := ⟨_, List.getElem?_eq_getElem (by omega)⟩
      have hd : b.drop (at_ + i) = c :: b.drop (at_ + i + 1) := by
        rw [List.drop_eq_getElem_cons (by omega)]
        congr 1
        exact (List.getElem?_eq_some_iff.mp hc).2
      have e5 : 5 - i = (5 - (i + 1)) + 1 := by omega
      rw [hd, e5, Rd.vgo] at hv
      have hc8 := c.toNat_lt
      have hand : Builtin.bitAnd (c.toNat : Int) 127 = ((c.toNat % 128 : Nat) : Int) := by
        have q := Bits.bitAnd_mask (x := (c.toNat : Int)) 7 (by omega)
        rw [show (2 : Int) ^ 7 - 1 = 127 by decide, show (2 : Int) ^ 7 = 128 by decide] at q
        rw [q]
        omega
      have hsh : Builtin.bitAnd (c.toNat : Int) 127 * 2 ^ ((7 : Int) * (0 + (i : Int))).toNat = ((c.toNat % 128 * 128 ^ i : Nat) : Int) := by
        rw [hand]
        have e7 : ((7 : Int) * (0 + (i : Int))).toNat = 7 * i := by omega
        have e8 : (2 : Int) ^ (7 * i) = ((128 ^ i : Nat) : Int) := by
          rw [show (128 : Nat) = 2 ^ 7 by decide, ← Nat.pow_mul]
          simp
        rw [e7, e8, Int.natCast_mul]
      refine ⟨cl, byV b, _, _, rfl, rfl, R2.2.1, atI_nat (byV_at hc), ?_⟩
      refine ⟨_, rfl, _, rfl, _, _, rfl, rfl, _, rfl, _, _, rfl, rfl, .inl ⟨by decide, by decide⟩, _, _, rfl, rfl, ⟨?_, ?_, ?_⟩, _, _, rfl, rfl, ?_⟩
      · show (0 : Int) ≤ 7 * (0 + (i : Int))
        omega
      · show (7 : Int) * (0 + (i : Int)) ≤ 1000000
        omega
      · show (Builtin.bitAnd (c.toNat : Int) 127).natAbs < 2 ^ 64
        rw [hand]
        omega
      have enum : (num : Int) + Builtin.bitAnd (c.toNat : Int) 127 * 2 ^ ((7 : Int) * (0 + (i : Int))).toNat = ((num + c.toNat % 128 * 128 ^ i : Nat) : Int) := by
        rw [hsh]
        omega
      dsimp only
      rw [enum]
      refine ⟨_, rfl, _, _, rfl, rfl, _, rfl, iteD (fun g => ?_) (fun g => ?_)⟩
      · have g' : c.toNat < 128 := by omega
        rw [if_pos g'] at hv
        have hiff : ((0 < (c.toNat : Int) ∨ (0 + (i : Int)) = 0) ∧ ((num + c.toNat % 128 * 128 ^ i : Nat) : Int) ≤ 4294967295) ↔ ((0 < c.toNat ∨ i = 0) ∧ num + c.toNat % 128 * 128 ^ i < 2 ^ 32) := by
          constructor
          · rintro ⟨h1, h2⟩
            exact ⟨by omega, by omega⟩
          · rintro ⟨h1, h2⟩
            exact ⟨by omega, by omega⟩
        have ends : ∀ (g : Bool), (g = true ↔ ((0 < c.toNat ∨ i = 0) ∧ num + c.toNat % 128 * 128 ^ i < 2 ^ 32)) → (g = true → Q (.int ((num + c.toNat % 128 * 128 ^ i : Nat) : Int)) H2) ∧ (g = false → Flts (CF K) E [] H2 1 (at_ : Int)) := by
          intro g hg
          refine ⟨fun e => ?_, fun e => ?_⟩
          · rw [if_pos (hg.mp e)] at hv
            exact kOk _ _ hv.symm H2 (s1.trans s2) R2
          · rw [if_neg (fun z => by rw [hg.mpr z] at e; cases e)] at hv
            exact ((kBad hv.symm).from (s1.trans s2)).less (by simp)
        have le : decide (((num + c.toNat % 128 * 128 ^ i : Nat) : Int) ≤ 4294967295) = true ↔ num + c.toNat % 128 * 128 ^ i < 2 ^ 32 := by
          rw [decide_eq_true_iff]
          omega
        have leF : (0 < c.toNat ∨ i = 0) → (decide (((num + c.toNat % 128 * 128 ^ i : Nat) : Int) ≤ 4294967295) = true ↔ ((0 < c.toNat ∨ i = 0) ∧ num + c.toNat % 128 * 128 ^ i < 2 ^ 32)) := fun h => by
          rw [le]
          exact ⟨fun q => ⟨h, q⟩, fun q => q.2⟩
        have leN : ¬ (0 < c.toNat ∨ i = 0) → (false = true ↔ ((0 < c.toNat ∨ i = 0) ∧ num + c.toNat % 128 * 128 ^ i < 2 ^ 32)) := fun h => ⟨fun q => Bool.noConfusion q, fun q => absurd q.1 h⟩
        refine ⟨_, rfl, _, _, rfl, rfl, _, rfl, iteD (fun e1 => ⟨_, rfl, iteT ⟨_, rfl, _, _, rfl, rfl, ?_⟩⟩) (fun e1 => ⟨_, rfl, rfl, _, rfl, ?_⟩)⟩
        · have q := leF (.inl (by omega))
          exact ⟨_, rfl, _, _, rfl, fun e => ⟨_, rfl, (ends _ q).1 e⟩, (ends _ q).2⟩
        rw [dec_int]
        refine iteD (fun e2 => ⟨_, rfl, _, _, rfl, rfl, ?_⟩) (fun e2 => ?_)
        · have q := leF (.inr (by omega))
          exact ⟨_, rfl, _, _, rfl, fun e => ⟨_, rfl, (ends _ q).1 e⟩, (ends _ q).2⟩
        · have q := leN (by omega)
          exact ⟨_, rfl, _, _, rfl, fun e => ⟨_, rfl, (ends _ q).1 e⟩, (ends _ q).2⟩
      · have g' : ¬ c.toNat < 128 := by omega
        rw [if_neg g'] at hv
        refine ⟨num + c.toNat % 128 * 128 ^ i, some (.int (i : Int)), some (.int (c.toNat : Int)), ?_, R2, s1.trans s2, ?_, hv⟩
        · show [_, _, _, some (V.int (0 + (i : Int))), _] = _
          rw [Int.zero_add]
        · have hm : c.toNat % 128 < 128 := Nat.mod_lt _ (by decide)
          have hp : 0 < 128 ^ i := Nat.pow_pos (by decide)
          rw [Nat.pow_succ]
          have : c.toNat % 128 * 128 ^ i ≤ 127 * 128 ^ i := Nat.mul_le_mul_right _ (by omega)
          omega
    · have hz : b.drop (at_ + i) = [] := List.drop_eq_nil_of_le (by omega)
      rw [hz] at hv
      have e5 : 5 - i = (5 - i - 1) + 1 := by omega
      rw [e5, Rd.vgo] at hv
      exact (kEnd hv.symm).from s1
  · rintro σ H1 ⟨num, x, y, rfl, R1, s1, hnum, hv⟩
    refine ⟨_, rfl, _, _, rfl, fun d hd => ?_⟩
    have hb : Rd.vgo 5 0 0 (b.drop at_) = .error false := by rw [← hv]; rfl
    exact kBad hb _ d (s1.trans (SameX.of (same_upd hd))) upd_same
end
end Hs
end
section
set_option Elab.async false
set_option linter.all false
set_option maxRecDepth 100000
set_option maxHeartbeats 2000000
namespace Hs
open PySem PySem.Spec PyProof.Rows L2
open PySem.SeqAt (firstLt firstLt_yes firstLt_no)
/-! ### lists of bytes, one before the other -/
theorem firstLt_map (e r : Nat → Bool) (fin : Bool) : ∀ l : List Nat, firstLt e r fin (l.map Nat.succ) = firstLt (fun j => e (j + 1)) (fun j => r (j + 1)) fin l
  | [] => rfl
  | j :: l => by
    cases h : e (j + 1) with
    | true => rw [List.map_cons, firstLt_yes h, firstLt_yes (e := fun j => e (j + 1)) h, firstLt_map e r fin l]
    | false => rw [List.map_cons, firstLt_no h, firstLt_no (e := fun j => e (j + 1)) h]
def atB (b : Sw.Bytes) (j : Nat) : Nat := (b.getD j 0).toNat
theorem firstLt_bytes : ∀ b c : Sw.Bytes, firstLt (fun j => decide (atB b j = atB c j)) (fun j => decide (atB b j < atB c j)) (decide (b.length < c.length)) (List.range (min b.length c.length)) = Sw.bytesBefore b c
  | [], [] => rfl
  | [], c :: r => rfl
  | a :: l, [] => rfl
  | a :: l, c :: r => by
    have ih := firstLt_bytes l r
    have e : min (a :: l).length (c :: r).length = min l.length r.length + 1 := by simp only [List.length_cons]; omega
    rw [e, List.range_succ_eq_map, Sw.bytesBefore]
    have hz : decide ((a :: l).length < (c :: r).length) = decide (l.length < r.length) := by simp
    by_cases h : a = c
    · subst h
      rw [firstLt_yes (by exact decide_eq_true rfl), firstLt_map, hz]
      have : (decide (a.toNat < a.toNat) || (a == a && Sw.bytesBefore l r)) = Sw.bytesBefore l r := by simp
      rw [this]
      exact ih
    · have hn : ¬ atB (a :: l) 0 = atB (c :: r) 0 := fun q => h (UInt8.toNat_inj.mp q)
      rw [firstLt_no (by exact decide_eq_false hn)]
      have : (a == c) = false := by simpa using h
      rw [this]
      simp [atB]
def rLtBy (K : PySem.W.Frag) : R2 := fun x y H Q => ∃ (a c : Addr) (b d : Sw.Bytes), x = .ref a ∧ y = .ref c ∧ SqL K H a (byV b) ∧ SqL K H c (byV d) ∧ Q (.bl (Sw.bytesBefore b d)) H
theorem byV_get {b : Sw.Bytes} {us : List Value} (r : Vals (byV b) us) {j : Nat} (h : j < us.length) : ∃ t, us[j] = .int ((atB b j : Nat) : Int) t := by
  have hl : (byV b).length = us.length := Vals.length r
  have hb : j < b.length := by rw [byV_len] at hl; omega
  have e : (byV b)[j]? = some (V.int ((atB b j : Nat) : Int)) := by
    rw [byV_at (c := b[j]) (List.getElem?_eq_getElem hb)]
    unfold atB
    rw [List.getD_eq_getElem?_getD, List.getElem?_eq_getElem hb]
    rfl
  obtain ⟨u, hu, ru⟩ := Vals.get r e
  obtain ⟨t, rfl⟩ := ru
  refine ⟨t, ?_⟩
  have := (List.getElem?_eq_some_iff.mp hu).2
  exact this
section
variable {X : Cx}
theorem op_ltBy (hu : X.A.units < cLine) : OpR X (compareOp .Lt) (rLtBy X.K) := by
  intro pins s σ H x y v u Q I rx ry h
  obtain ⟨a, c, b, d, rfl, rfl, ha, hc, q⟩ := h
  cases rx
  cases ry
  obtain ⟨its, r1, p1, _⟩ := I.list ha
  obtain ⟨its2, r2, p2, _⟩ := I.list hc
  obtain ⟨o1, n1, g1, c1, d1, e1⟩ := p1
  obtain ⟨o2, n2, g2, c2, d2, e2⟩ := p2
  have l1 : its.length = b.length := by rw [← Vals.length r1, byV_len]
  have l2 : its2.length = d.length := by rw [← Vals.length r2, byV_len]
  have L := PySem.SeqAt.RcLt.lists (A := X.A) (s := s) (l := a) (b := c) (items := its.toArray) (items2 := its2.toArray) (e := fun j => decide (atB b j = atB d j)) (r := fun j => decide (atB b j < atB d j)) ⟨o1, g1, c1, n1, e1⟩ ⟨o2, g2, c2, n2, e2⟩ hu
    (fun j h1 h2 => by
      obtain ⟨t1, z1⟩ := byV_get r1 (j := j) (by simpa using h1)
      obtain ⟨t2, z2⟩ := byV_get r2 (j := j) (by simpa using h2)
      have w1 : its.toArray[j] = .int ((atB b j : Nat) : Int) t1 := by simpa using z1
      have w2 : its2.toArray[j] = .int ((atB d j : Nat) : Int) t2 := by simpa using z2
      rw [w1, w2]
      have q := PySem.SeqAt.EqAt.int_int (A := X.A.in1) (s := s) ((atB b j : Nat) : Int) t1 ((atB d j : Nat) : Int) t2
      have e : (((atB b j : Nat) : Int) == ((atB d j : Nat) : Int)) = decide (atB b j = atB d j) := by
        by_cases h : atB b j = atB d j
        · simp [h]
        · simp [h]
          omega
      rw [← e]
      exact q)
    (fun j h1 h2 _ => by
      obtain ⟨t1, z1⟩ := byV_get r1 (j := j) (by simpa using h1)
      obtain ⟨t2, z2⟩ := byV_get r2 (j := j) (by simpa using h2)
      have w1 : its.toArray[j] = .int ((atB b j : Nat) : Int) t1 := by simpa using z1
      have w2 : its2.toArray[j] = .int ((atB d j : Nat) : Int) t2 := by simpa using z2
      rw [w1, w2]
      intro prog w E Q' hq
      have e : decide (atB b j < atB d j) = decide (((atB b j : Nat) : Int) < ((atB d j : Nat) : Int)) := by simp
      rw [e] at hq
      exact (PyProof.Rows.lt_int hq : wpAny (model prog w) X.A.in1 (compareOp .Lt (.int ((atB b j : Nat) : Int) t1) (.int ((atB d j : Nat) : Int) t2)) Q' E s))
  refine L X.prog X.w _ _ ?_
  have ez : firstLt (fun j => decide (atB b j = atB d j)) (fun j => decide (atB b j < atB d j)) (decide (its.toArray.size < its2.toArray.size)) (List.range (min its.toArray.size its2.toArray.size)) = Sw.bytesBefore b d := by
    rw [List.size_toArray, List.size_toArray, l1, l2]
    exact firstLt_bytes b d
  rw [ez]
  exact ⟨.bl (Sw.bytesBefore b d), H, I, rfl, q⟩
end
end Hs
end
section
set_option Elab.async false
set_option linter.all false
set_option maxRecDepth 100000
set_option maxHeartbeats 2000000
namespace Hs
open PySem PySem.Spec PyProof.Rows L2
section
variable {P : Program} {w : World} {K : PySem.W.Frag} {mg : Str → Option Value} {base : Heap}
def spTake2 (K : PySem.W.Frag) : Sp := fun vs H Q E => ∃ (r cl sg : Addr) (b : Sw.Bytes) (at_ n : Nat), vs = [.ref r, .int (n : Int)] ∧ Rdr K H r cl sg b at_ ∧
  (∀ m, Sw.someOf at_ n (b.drop at_) = .ok m → ∀ H', SameX [r] H H' → Rdr K H' r cl sg b (at_ + n) → Q (.int (at_ : Int)) H') ∧ (∀ e, Sw.someOf at_ n (b.drop at_) = .error e → Flts (CF K) E [r] H 1 (e.place : Int))
theorem ok_take2 (T : TRd K mg) : FnOk P w K mg base (L2.CX P w) 2 (ma K "Reader" "take") (fdA K (ma K "Reader" "take")) ["self", "count"] (spTake2 K) := by
  refine (ok_take T).imp fun vs H Q E h => ?_
  obtain ⟨r, cl, sg, b, at_, n, rfl, R, k1, k2⟩ := h
  have hl := R.2.2.2.2.2
  refine ⟨r, cl, sg, b, at_, n, rfl, R, fun h => k1 ((b.drop at_).take n) ?_, fun h => ?_⟩
  · unfold Sw.someOf
    rw [if_neg (by rw [List.length_drop]; omega)]
  · have e : Sw.someOf at_ n (b.drop at_) = .error ⟨1, b.length⟩ := by
      unfold Sw.someOf
      rw [if_pos (by rw [List.length_drop]; omega), List.length_drop]
      congr 2
      omega
    exact k2 _ e
def spVary2 (K : PySem.W.Frag) : Sp := fun vs H Q E => ∃ (r cl sg : Addr) (b : Sw.Bytes) (at_ : Nat), vs = [.ref r] ∧ Rdr K H r cl sg b at_ ∧
  (∀ n l, Sw.varyOf at_ (b.drop at_) = .ok (n, l) → ∀ H', SameX [r] H H' → Rdr K H' r cl sg b (at_ + l) → Q (.int (n : Int)) H') ∧ (∀ e, Sw.varyOf at_ (b.drop at_) = .error e → Flts (CF K) E [r] H 1 (e.place : Int))
theorem ok_vary2 (T : TRd K mg) : FnOk P w K mg base (L2.CX P w) 3 (ma K "Reader" "varying") (fdA K (ma K "Reader" "varying")) ["self"] (spVary2 K) := by
  refine (ok_varying T).imp fun vs H Q E h => ?_
  obtain ⟨r, cl, sg, b, at_, rfl, R, k1, k2⟩ := h
  have hl := R.2.2.2.2.2
  refine ⟨r, cl, sg, b, at_, rfl, R, fun n l h => k1 n l ?_, fun h => ?_, fun h => ?_⟩
  · rw [Rd.vary_go, h]; rfl
  · have e : Sw.varyOf at_ (b.drop at_) = .error ⟨1, b.length⟩ := by
      rw [Rd.vary_go, h]
      show Except.error (⟨1, at_ + (b.drop at_).length⟩ : Sw.Fault) = _
      rw [List.length_drop]
      congr 2
      omega
    exact k2 _ e
  · exact k2 ⟨3, at_⟩ (by rw [Rd.vary_go, h]; rfl)
def spNib (K : PySem.W.Frag) : Sp := fun vs H Q E => ∃ (r cl sg : Addr) (b : Sw.Bytes) (p : Nat), vs = [.ref r, .int (p : Int)] ∧ Rdr K H r cl sg b (p + 1) ∧
  (∀ z n, Rd.leafAt 2 p (b.drop (p + 1)) = .ok (.num z, n) → ∀ H', SameX [r] H H' → Rdr K H' r cl sg b (p + n) → Q (.bl (decide (z < 0))) H') ∧ (∀ e, Rd.leafAt 2 p (b.drop (p + 1)) = .error e → Flts (CF K) E [r] H 1 (e.place : Int))
theorem ok_nib (T : TRd K mg) : FnOk P w K mg base (L2.CX P w) 4 (ma K "Reader" "number_is_below") (fdA K (ma K "Reader" "number_is_below")) ["self", "place"] (spNib K) := by
  have GN : FnOk P w K mg base (L2.CX P w) 1 (ga K "need") (fdA K (ga K "need")) ["good", "place"] (spNeed K) := ok_need T.fa
  have bN := b_need T.fa.need.f
  have GT : FnOk P w K mg base (L2.CX P w) 2 (ma K "Reader" "take") (fdA K (ma K "Reader" "take")) ["self", "count"] (spTake2 K) := ok_take2 T
  have bT := b_Reader_take T.take.f
  have GV : FnOk P w K mg base (L2.CX P w) 3 (ma K "Reader" "varying") (fdA K (ma K "Reader" "varying")) ["self"] (spVary2 K) := ok_vary2 T
  have bV := b_Reader_varying T.varying.f
  refine T.number_is_below.f.okX sc_Reader_number_is_below (fun vs H Q E h => by obtain ⟨_, _, _, _, _, rfl, _⟩ := h; rfl) (fun cdv A outer s H vs Q E hr h => ⟨_,
    (pss_cons (ps_set (i := 2) sc_Reader_number_is_below.nd rfl (Or.inl rfl) (pe_meth0 (pv 0) T.RdC.cl T.varying.me GV hr bV .nil (passes_call (takes_of (E := E) rfl rfl rfl rfl) (fun _ _ _ _ h => h))))
    (pss_cons (ps_set (i := 3) sc_Reader_number_is_below.nd rfl (Or.inl rfl) (pe_op op_shr (pv 2) pe_int))
    (pss_cons (ps_expr (pe_call GN (hr.mono (by decide)) rfl T.fa.need.g T.fa.need.kp bN .nil (passes_call (takes_of (E := E) rfl rfl rfl rfl) (fun _ _ _ _ h => h))
      (pa_cons (pe_and (pe_cmpR op_le (pv 3) (pe_intT T.LONGEST_NUMBER) (nomark _)) (pe_one (pe_cmpR op_ne (pv 2) pe_int (nomark _)))) (pa_cons (pv 1) pa_nil))))
    (pss_cons (ps_set (i := 4) sc_Reader_number_is_below.nd rfl (Or.inl rfl) (pe_meth (pv 0) T.RdC.cl T.take.me GT (hr.mono (by decide)) bT .nil (passes_call (takes_of (E := E) rfl rfl rfl rfl) (fun _ _ _ _ h => h)) (pa_cons (pv 3) pa_nil)))
    (pss_cons (ps_expr (pe_call GN (hr.mono (by decide)) rfl T.fa.need.g T.fa.need.kp bN .nil (passes_call (takes_of (E := E) rfl rfl rfl rfl) (fun _ _ _ _ h => h))
      (pa_cons (pe_or (pe_cmpR op_eq (pv 3) pe_int (nomark _)) (pe_one (pe_cmpR op_ne (pe_ix ix_list (pe_fld (pv 0) rfl) (pe_op op_sub (pe_op op_add (pv 4) (pv 3)) pe_int) (fun _ _ => rfl)) pe_int (nomark _)))) (pa_cons (pv 1) pa_nil))))
    (pss_one (ps_ret (pe_cmpR op_eq (pe_op op_and (pv 2) pe_int) pe_int (nomark _))))))))), ?_⟩)
  obtain ⟨r, cl, sg, b, p, rfl, R, kOk, kEr⟩ := h
  unfold Rd.leafAt at kOk kEr
  obtain ⟨⟨dx, h1⟩, _⟩ := id R
  refine ⟨_, rfl, r, dx, _, rfl, h1, rdF_varying, r, cl, sg, b, p + 1, rfl, R, fun z l hv H1 s1 R1 => ?_, fun e he => ?_⟩
  · rw [hv] at kOk kEr
    dsimp only at kOk kEr
    have hz : ((z : Int) / 2 ^ ((1 : Int).toNat)) = ((z / 2 : Nat) : Int) := by
      show (z : Int) / 2 = _
      omega
    refine ⟨_, rfl, _, _, rfl, rfl, (show (0 : Int) ≤ 1 by decide), ?_⟩
    dsimp only [gName]
    rw [hz]
    have badN : ¬ (z / 2 ≤ 4096 ∧ z ≠ 1) → Flts (CF K) E [] H1 1 (p : Int) := fun q => by
      by_cases g : Sw.NUMBER < z / 2
      · rw [if_pos g] at kEr
        exact ((kEr _ rfl).from s1).less (by simp)
      · have g' : ¬ 4096 < z / 2 := g
        have z1 : z = 1 := by omega
        subst z1
        rw [if_neg g] at kEr
        have e0 : Sw.someOf (p + 1 + l) (1 / 2) ((b.drop (p + 1)).drop l) = .ok [] := by
          unfold Sw.someOf
          rw [if_neg (by omega)]
          rfl
        rw [e0] at kEr
        dsimp only at kEr
        rw [if_pos (.inr rfl)] at kEr
        exact ((kEr _ rfl).from s1).less (by simp)
    refine ⟨_, rfl, _, _, rfl, rfl, _, rfl, iteD (fun e1 => ⟨_, rfl, rfl, ?_⟩) (fun e1 => ?_)⟩
    · rw [dec_int]
      refine ⟨_, rfl, _, _, rfl, fun g => ?_, fun g => ?_⟩
      · have g1 : ¬ z = 1 := by
          intro q
          subst q
          cases g
        have g2 : ¬ Sw.NUMBER < z / 2 := by show ¬ 4096 < z / 2; omega
        rw [if_neg g2] at kOk kEr
        obtain ⟨⟨dx1, h1'⟩, _⟩ := id R1
        have hdd : (b.drop (p + 1)).drop l = b.drop (p + 1 + l) := by rw [List.drop_drop]
        rw [hdd] at kOk kEr
        refine ⟨_, rfl, r, dx1, _, rfl, h1', rdF_take, _, rfl, r, cl, sg, b, p + 1 + l, z / 2, rfl, R1, fun m hm H2 s2 R2 => ?_, fun e he => ?_⟩
        · rw [hm] at kOk kEr
          dsimp only at kOk kEr
          obtain ⟨a1, a2, a3⟩ := Rd.someOf_ok hm
          have hlast : m.getLast? = some 0 ↔ ¬ z / 2 = 0 ∧ (b[p + 1 + l + z / 2 - 1]? = some 0) := by
            by_cases z0 : z / 2 = 0
            · have : m = [] := List.length_eq_zero_iff.mp (by omega)
              rw [this]
              simp [z0]
            · rw [List.getLast?_eq_getElem?, a3, a2, List.getElem?_take, if_pos (by omega), List.getElem?_drop]
              have : p + 1 + l + (z / 2 - 1) = p + 1 + l + z / 2 - 1 := by omega
              rw [this]
              exact ⟨fun q => ⟨z0, q⟩, fun q => q.2⟩
          have fin : ∀ g : Bool, (g = true ↔ ¬ m.getLast? = some 0) → (g = true → Q (.bl (decide (((z : Int) % 2) = 1))) H2) ∧ (g = false → Flts (CF K) E [] H2 1 (p : Int)) := by
            intro g hg
            refine ⟨fun e => ?_, fun e => ?_⟩
            · have q := hg.mp e
              rw [if_neg (by rintro (q' | q'); exact q q'; exact g1 q')] at kOk
              have k := kOk _ _ rfl H2 (s1.trans s2) (by
                have e : p + (1 + l + z / 2) = p + 1 + l + z / 2 := by omega
                rw [e]
                exact R2)
              have e2 : decide ((if z % 2 = 1 then -(Sw.ofLe m : Int) else (Sw.ofLe m : Int)) < 0) = decide (((z : Int) % 2) = 1) := by
                by_cases o : z % 2 = 1
                · have hm0 : m ≠ [] := fun h => by
                    rw [h] at a3
                    simp at a3
                    omega
                  have := Rd.ofLe_pos hm0 q
                  rw [if_pos o, decide_eq_true (by omega), decide_eq_true (by omega)]
                · rw [if_neg o, decide_eq_false (by omega), decide_eq_false (by omega)]
              rw [e2] at k
              exact k
            · have q : m.getLast? = some 0 := by
                apply Classical.byContradiction
                intro h
                rw [hg.mpr h] at e
                cases e
              rw [if_pos (.inl q)] at kEr
              exact ((kEr _ rfl).from (s1.trans s2)).less (by simp)
          have hand : Builtin.bitAnd (z : Int) 1 = (z : Int) % 2 := Bits.bitAnd_mask (x := (z : Int)) 1 (by omega)
          have ret : ∀ g : Bool, (g = true ↔ ¬ m.getLast? = some 0) → g = true → Q (.bl (decide (V.int (Builtin.bitAnd (z : Int) 1) = V.int 1))) H2 := fun g hg e => by
            rw [dec_int, hand]
            exact (fin g hg).1 e
          refine ⟨_, rfl, rfl, _, rfl, ?_⟩
          rw [dec_int]
          refine iteD (fun e0 => ?_) (fun e0 => ?_)
          · have hg : (true = true ↔ ¬ m.getLast? = some 0) := ⟨fun _ q => (hlast.mp q).1 (by omega), fun _ => rfl⟩
            exact ⟨_, rfl, _, _, rfl, fun e => ⟨_, rfl, _, _, rfl, rfl, rfl, ret _ hg e⟩, (fin _ hg).2⟩
          · have hlt : p + 1 + l + z / 2 - 1 < b.length := by
              have := R2.2.2.2.2.2
              omega
            obtain ⟨c, hc⟩ : ∃ c, b[p + 1 + l + z / 2 - 1]? = some c := ⟨_, List.getElem?_eq_getElem hlt⟩
            have hix : (((p + 1 + l : Nat) : Int) + ((z / 2 : Nat) : Int) - 1) = ((p + 1 + l + z / 2 - 1 : Nat) : Int) := by omega
            have hg : (!decide (V.int (c.toNat : Int) = V.int 0)) = true ↔ ¬ m.getLast? = some 0 := by
              rw [hlast, hc, dec_int, Bool.not_eq_true', decide_eq_false_iff_not]
              constructor
              · intro h q
                have : c = 0 := Option.some.inj q.2
                subst this
                exact h rfl
              · intro h q
                refine h ⟨by omega, ?_⟩
                have : c = 0 := UInt8.toNat_inj.mp (by show c.toNat = 0; omega)
                rw [this]
            dsimp only [tOp]
            refine rdCodes (i := 0) T R2 (by rfl) ?_
            refine ⟨_, rfl, _, rfl, _, _, rfl, rfl, _, _, rfl, rfl, cl, byV b, _, V.int (c.toNat : Int), rfl, rfl, R2.2.1, ?_, rfl, _, rfl, _, _, rfl, fun e => ⟨_, rfl, _, _, rfl, rfl, rfl, ret _ hg e⟩, (fin _ hg).2⟩
            rw [hix]
            exact atI_nat (byV_at hc)
        · rw [he] at kEr
          exact (kEr _ rfl).from s1
      · refine badN ?_
        have : (z : Int) = 1 := by
          rw [Bool.not_eq_false'] at g
          exact of_decide_eq_true g
        omega
    · refine ⟨_, rfl, _, _, rfl, fun g => Bool.noConfusion g, fun g => badN (by omega)⟩
  · rw [he] at kEr
    exact kEr _ rfl
end
end Hs
end
section
set_option Elab.async false
set_option linter.all false
set_option maxRecDepth 100000
set_option maxHeartbeats 2000000
namespace Hs
open PySem PySem.Spec PyProof.Rows L2
theorem cut_byV {b : Sw.Bytes} {i j : Nat} (h : i ≤ j) (hj : j ≤ b.length) : cutV (byV b) (some (i : Int)) (some (j : Int)) = byV ((b.drop i).take (j - i)) := by
  unfold cutV
  rw [HT.sIx_nat, HT.sIx_nat, byV_len, Nat.min_eq_left hj, Nat.min_eq_left (by omega)]
  unfold byV
  rw [List.map_take, List.map_drop]
section
variable {P : Program} {w : World} {K : PySem.W.Frag} {mg : Str → Option Value} {base : Heap}
def spReadText (K : PySem.W.Frag) : Sp := fun vs H Q E => ∃ (r cl sg : Addr) (b : Sw.Bytes) (at_ n : Nat), vs = [.ref r, .int (n : Int)] ∧ Rdr K H r cl sg b at_ ∧ b.length ≤ 100000 ∧
  (∀ m t, Sw.someOf at_ n (b.drop at_) = .ok m → Sw.textOf at_ m = .ok t → ∀ H', SameX [r] H H' → Rdr K H' r cl sg b (at_ + n) → Q (.str (spell m)) H') ∧
  (∀ e, Sw.someOf at_ n (b.drop at_) = .error e → Flts (CF K) E [r] H 1 (e.place : Int)) ∧ (∀ m e, Sw.someOf at_ n (b.drop at_) = .ok m → Sw.textOf at_ m = .error e → Flts (CF K) E [r] H 1 (e.place : Int))
theorem ok_read_text (T : TRd K mg) : FnOk P w K mg base (L2.CX P w) 4 (ma K "Reader" "read_text") (fdA K (ma K "Reader" "read_text")) ["self", "count"] (spReadText K) := by
  have GT : FnOk P w K mg base (L2.CX P w) 2 (ma K "Reader" "take") (fdA K (ma K "Reader" "take")) ["self", "count"] (spTake2 K) := ok_take2 T
  have bT := b_Reader_take T.take.f
  have GB : FnOk P w K mg base CX0 3 (ga K "broken_at") (fdA K (ga K "broken_at")) ["codes", "start", "end"] (spBroken K) := ok_broken_at T.utf.broken_at T.utf.tails_of T.utf.second_of_three T.utf.second_of_four
  have bB := b_broken_at T.utf.broken_at.f
  have GS : FnOk P w K mg base CX0 1 (ga K "spelled") (fdA K (ga K "spelled")) ["signs", "codes"] (spSpelled K) := ok_spelled T.sp
  have bS := b_spelled T.sp.spelled.f
  refine T.read_text.f.okX sc_Reader_read_text (fun vs H Q E h => by obtain ⟨_, _, _, _, _, _, rfl, _⟩ := h; rfl) (fun cdv A outer s H vs Q E hr h => ⟨_,
    (pss_cons (ps_set (i := 2) sc_Reader_read_text.nd rfl (Or.inl rfl) (pe_meth (pv 0) T.RdC.cl T.take.me GT (hr.mono (by decide)) bT .nil (passes_call (takes_of (E := E) rfl rfl rfl rfl) (fun _ _ _ _ h => h)) (pa_cons (pv 1) pa_nil)))
    (pss_cons (ps_set (i := 3) sc_Reader_read_text.nd rfl (Or.inl rfl) (pe_call GB hr rfl T.utf.broken_at.g T.utf.broken_at.kp bB .nil pass0 (pa_cons (pe_fld (pv 0) rfl) (pa_cons (pv 2) (pa_cons (pe_fld (pv 0) rfl) pa_nil)))))
    (pss_cons (ps_if (pt_cmpR op_notN (pv 3) pe_non (nomark _)) (pss_one (ps_raiseFlt (W := tkE E) rfl T.fa.flt hr (takes_of rfl rfl rfl rfl) (by exact (pa_cons (pe_intT T.fa.NO_PROGRAM) (pa_cons (pv 3) pa_nil))))) pss_nil)
    (pss_one (ps_ret (pe_call GS (hr.mono (by decide)) rfl T.sp.spelled.g T.sp.spelled.kp bS .nil pass0 (pa_cons (pe_fld (pv 0) rfl) (pa_cons (pe_slice sl_list (pe_fld (pv 0) rfl) (po_some (pv 2)) (po_some (pe_fld (pv 0) rfl))) pa_nil)))))))), ?_⟩)
  obtain ⟨r, cl, sg, b, at_, n, rfl, R, hb, kOk, kE1, kE2⟩ := h
  obtain ⟨⟨dx, h1⟩, _⟩ := id R
  refine ⟨_, rfl, r, dx, _, rfl, h1, rdF_take, _, rfl, r, cl, sg, b, at_, n, rfl, R, fun m hm H1 s1 R1 => ?_, fun e he => kE1 e he⟩
  obtain ⟨a1, a2, a3⟩ := Rd.someOf_ok hm
  have hl := R1.2.2.2.2.2
  dsimp only [gName, tSeq, tAsg, tCall, tCons]
  refine rdCodes (i := 0) T R1 (by rfl) ?_
  refine ⟨_, rfl, ?_⟩
  refine rdAt (i := 0) T R1 (by rfl) ?_
  have hseg : (b.take (at_ + n)).drop at_ = m := by
    rw [a2, List.drop_take]
    congr 1
    omega
  refine ⟨cl, b, at_, at_ + n, rfl, R1.2.1, by omega, hl, fun H2 s2 => ?_⟩
  rw [hseg]
  have R2 := R1.same s2
  have s12 : SameX [r] H H2 := s1.trans (SameX.of s2)
  refine ⟨_, rfl, rfl, _, rfl, ?_⟩
  cases hx : brk at_ m with
  | some q =>
    refine iteT ⟨_, rfl, _, _, rfl, fun d hd => ?_⟩
    have he : Sw.textOf at_ m = .error ⟨5, q⟩ := by
      unfold brk at hx
      unfold Sw.textOf
      cases hy : Sw.scalars at_ m with
      | ok t => rw [hy] at hx; cases hx
      | error z => rw [hy] at hx; rw [Option.some.inj hx]
    exact kE2 _ _ hm he _ d (s12.trans (SameX.of (same_upd hd))) upd_same
  | none =>
    refine iteF ?_
    obtain ⟨t, ht⟩ : ∃ t, Sw.textOf at_ m = .ok t := by
      unfold brk at hx
      unfold Sw.textOf
      cases hy : Sw.scalars at_ m with
      | ok t => exact ⟨t, rfl⟩
      | error z => rw [hy] at hx; cases hx
    dsimp only [tRet, tNext, tCall, tCons, tSl]
    refine rdSigns (i := 0) T R2 (by rfl) ?_
    refine rdCodes (i := 0) T R2 (by rfl) ?_
    refine ⟨_, rfl, _, rfl, ?_⟩
    dsimp only [tPart]
    refine rdAt (i := 0) T R2 (by rfl) ?_
    refine ⟨_, rfl, cl, byV b, rfl, R2.2.1, fun p hp => ⟨sg, p, m, rfl, same_upd hp _ _ R2.2.2.1, SqL.of ?_, by omega, fun H3 s3 => ?_⟩⟩
    · rw [cut_byV (Nat.le_add_right _ _) hl, Nat.add_sub_cancel_left, ← a2]
      exact upd_same
    · have s23 := (same_upd hp).trans s3
      exact kOk m t hm ht H3 (s12.trans (SameX.of s23)) (R2.same s23)
end
end Hs
end
section
set_option Elab.async false
set_option linter.all false
set_option maxRecDepth 100000
set_option maxHeartbeats 2000000
namespace Hs
open PySem PySem.Spec PyProof.Rows L2
abbrev CRaw (K : PySem.W.Frag) : Addr := ga K "Raw"
/-- a raw value's fields -/
structure RF where
  kind : Nat
  place : Nat
  text : Str
  below : Bool
  nl : Addr
  ml : Addr
  ll : Addr
  missing : Nat
  deep : Nat
def RF.fs (f : RF) : List (Str × V) := [("kind", .int (f.kind : Int)), ("place", .int (f.place : Int)), ("text", .str f.text), ("below", .bl f.below), ("names", .ref f.nl), ("members", .ref f.ml), ("last_codes", .ref f.ll), ("missing", .int (f.missing : Int)), ("deep", .int (f.deep : Int))]
theorem RF.l_kind (f : RF) : f.fs.lookup ("kind" : Str) = some (.int (f.kind : Int)) := by kernel_rfl
theorem RF.l_place (f : RF) : f.fs.lookup ("place" : Str) = some (.int (f.place : Int)) := by kernel_rfl
theorem RF.l_text (f : RF) : f.fs.lookup ("text" : Str) = some (.str f.text) := by kernel_rfl
theorem RF.l_below (f : RF) : f.fs.lookup ("below" : Str) = some (.bl f.below) := by kernel_rfl
theorem RF.l_names (f : RF) : f.fs.lookup ("names" : Str) = some (.ref f.nl) := by kernel_rfl
theorem RF.l_members (f : RF) : f.fs.lookup ("members" : Str) = some (.ref f.ml) := by kernel_rfl
theorem RF.l_last (f : RF) : f.fs.lookup ("last_codes" : Str) = some (.ref f.ll) := by kernel_rfl
theorem RF.l_missing (f : RF) : f.fs.lookup ("missing" : Str) = some (.int (f.missing : Int)) := by kernel_rfl
theorem RF.l_deep (f : RF) : f.fs.lookup ("deep" : Str) = some (.int (f.deep : Int)) := by kernel_rfl
theorem RF.p_text (f : RF) (z : Str) : putF "text" (.str z) f.fs = { f with text := z }.fs := by kernel_rfl
theorem RF.p_below (f : RF) (z : Bool) : putF "below" (.bl z) f.fs = { f with below := z }.fs := by kernel_rfl
theorem RF.p_last (f : RF) (z : Addr) : putF "last_codes" (.ref z) f.fs = { f with ll := z }.fs := by kernel_rfl
theorem RF.p_missing (f : RF) (z : Nat) : putF "missing" (.int (z : Int)) f.fs = { f with missing := z }.fs := by kernel_rfl
theorem RF.p_deep (f : RF) (z : Nat) : putF "deep" (.int (z : Int)) f.fs = { f with deep := z }.fs := by kernel_rfl
theorem RF.len (f : RF) : f.fs.length < 1000 := by show 9 < 1000; decide
section
variable {P : Program} {w : World} {K : PySem.W.Frag} {mg : Str → Option Value} {base : Heap}
theorem putF_le {f : Str} {v : V} : ∀ {fs : List (Str × V)} {n : Nat}, fs.length ≤ n → (putF f v fs).length ≤ n + 1
  | [], n, _ => by show 1 ≤ n + 1; omega
  | (g, x) :: r, n, h => by
    by_cases e : g = f
    · show (if g = f then (g, v) :: r else (g, x) :: putF f v r).length ≤ n + 1
      rw [if_pos e]
      simp only [List.length_cons] at h ⊢
      omega
    · show (if g = f then (g, v) :: r else (g, x) :: putF f v r).length ≤ n + 1
      rw [if_neg e]
      simp only [List.length_cons] at h ⊢
      have := putF_le (f := f) (v := v) (fs := r) (n := n - 1) (by omega)
      omega
theorem none_upd {H : Hp} {a p : Addr} {o : HO} (h : upd H a o p = none) : p ≠ a ∧ H p = none := by
  by_cases e : p = a
  · subst e
    rw [upd_same] at h
    cases h
  · rw [upd_ne e] at h
    exact ⟨e, h⟩
def RF.new (k p : Nat) (nl ml ll : Addr) : RF := ⟨k, p, "", false, nl, ml, ll, 0, 1⟩
def spRawInit (K : PySem.W.Frag) : Sp := fun vs H Q _ => ∃ (x dx : Addr) (k p : Nat), vs = [.ref x, .int (k : Int), .int (p : Int)] ∧ H x = some (.ins (CRaw K) dx []) ∧
  ∀ H' nl ml ll, SameX [x] H H' → H' x = some (.ins (CRaw K) dx (RF.new k p nl ml ll).fs) → H' nl = some (.lst []) → H' ml = some (.lst []) → H' ll = some (.lst []) → H nl = none → H ml = none → H ll = none → nl ≠ ml → nl ≠ ll → ml ≠ ll → Q .non H'
theorem ok_rawInit (T : TRd K mg) : FnOk P w K mg base CX0 1 (ma K "Raw" "__init__") (fdA K (ma K "Raw" "__init__")) ["self", "kind", "place"] (spRawInit K) := by
  refine T.RawI.f.ok sc_Raw___init__ (fun vs H Q E h => by obtain ⟨_, _, _, _, rfl, _⟩ := h; rfl) (fun cdv A outer s H vs Q E hr h => ⟨_, PSs.nox
    (pss_cons (ps_fld (pv 0) (pv 1) rfl) (pss_cons (ps_fld (pv 0) (pv 2) rfl) (pss_cons (ps_fld (pv 0) pe_str rfl) (pss_cons (ps_fld (pv 0) pe_bl rfl) (pss_cons (ps_fld (pv 0) (pe_lst pa_nil) rfl)
      (pss_cons (ps_fld (pv 0) (pe_lst pa_nil) rfl) (pss_cons (ps_fld (pv 0) (pe_lst pa_nil) rfl) (pss_cons (ps_fld (pv 0) pe_int rfl) (pss_one (ps_fld (pv 0) pe_int rfl)))))))))), ?_⟩)
  obtain ⟨x, dx, k, p, rfl, hx, kQ⟩ := h
  have n := fun f h => T.rawN f h
  have l0 : ([] : List (Str × V)).length ≤ 0 := Nat.le_refl _
  refine ⟨_, rfl, _, rfl, x, _, dx, _, rfl, hx, T.RawC.cl, n _ (by simp), by decide, ?_⟩
  have l1 := putF_le (f := "kind") (v := .int (k : Int)) l0
  refine ⟨_, rfl, _, rfl, x, _, dx, _, rfl, upd_same, T.RawC.cl, n _ (by simp), by omega, ?_⟩
  have l2 := putF_le (f := "place") (v := .int (p : Int)) l1
  refine ⟨_, rfl, x, _, dx, _, rfl, upd_same, T.RawC.cl, n _ (by simp), by omega, ?_⟩
  have l3 := putF_le (f := "text") (v := .str "") l2
  refine ⟨_, rfl, x, _, dx, _, rfl, upd_same, T.RawC.cl, n _ (by simp), by omega, ?_⟩
  have l4 := putF_le (f := "below") (v := .bl false) l3
  refine ⟨nil_le, fun nl h1 => ?_⟩
  refine ⟨_, rfl, x, _, dx, _, rfl, (same_upd h1) _ _ upd_same, T.RawC.cl, n _ (by simp), by omega, ?_⟩
  have l5 := putF_le (f := "names") (v := .ref nl) l4
  refine ⟨nil_le, fun ml h2 => ?_⟩
  refine ⟨_, rfl, x, _, dx, _, rfl, (same_upd h2) _ _ upd_same, T.RawC.cl, n _ (by simp), by omega, ?_⟩
  have l6 := putF_le (f := "members") (v := .ref ml) l5
  refine ⟨nil_le, fun ll h3 => ?_⟩
  refine ⟨_, rfl, x, _, dx, _, rfl, (same_upd h3) _ _ upd_same, T.RawC.cl, n _ (by simp), by omega, ?_⟩
  have l7 := putF_le (f := "last_codes") (v := .ref ll) l6
  refine ⟨_, rfl, x, _, dx, _, rfl, upd_same, T.RawC.cl, n _ (by simp), by omega, ?_⟩
  have l8 := putF_le (f := "missing") (v := .int 0) l7
  refine ⟨_, rfl, x, _, dx, _, rfl, upd_same, T.RawC.cl, n _ (by simp), by omega, ?_⟩
  obtain ⟨n1, h1⟩ := none_upd h1
  have h1 := (none_upd (none_upd (none_upd h1).2).2).2
  obtain ⟨m1, h2⟩ := none_upd h2
  obtain ⟨m2, h2⟩ := none_upd h2
  have h2 := (none_upd (none_upd (none_upd (none_upd h2).2).2).2).2
  obtain ⟨o1, h3⟩ := none_upd h3
  obtain ⟨o2, h3⟩ := none_upd h3
  obtain ⟨o3, h3⟩ := none_upd h3
  obtain ⟨o4, h3⟩ := none_upd h3
  have h3 := (none_upd (none_upd (none_upd (none_upd h3).2).2).2).2
  refine kQ _ nl ml ll ?_ ?_ ?_ ?_ ?_ h1 h2 h3 (Ne.symm m2) (Ne.symm o4) (Ne.symm o2)
  · intro b u nb hb
    have b1 : b ≠ x := by simpa using nb
    have b2 := ne_of_none hb h1
    have b3 := ne_of_none hb h2
    have b4 := ne_of_none hb h3
    simp only [upd_ne b1, upd_ne b2, upd_ne b3, upd_ne b4]
    exact hb
  · rw [upd_same]
    have e : putF "deep" (V.int 1) (putF "missing" (V.int 0) (putF "last_codes" (V.ref ll) (putF "members" (V.ref ml) (putF "names" (V.ref nl) (putF "below" (V.bl false) (putF "text" (V.str "") (putF "place" (V.int (p : Int)) (putF "kind" (V.int (k : Int)) [])))))))) = (RF.new k p nl ml ll).fs := by kernel_rfl
    exact congrArg (fun z => some (HO.ins (CRaw K) dx z)) e
  · simp only [upd_ne n1, upd_ne (Ne.symm m2), upd_ne (Ne.symm o4)]
    exact upd_same
  · simp only [upd_ne m1, upd_ne (Ne.symm o2)]
    exact upd_same
  · simp only [upd_ne o1]
    exact upd_same
end
end Hs
end
section
set_option Elab.async false
set_option linter.all false
set_option maxRecDepth 100000
set_option maxHeartbeats 2000000
namespace Hs
open PySem PySem.Spec PyProof.Rows L2
section
variable {P : Program} {w : World} {K : PySem.W.Frag} {mg : Str → Option Value} {base : Heap}
def spRdInit (K : PySem.W.Frag) : Sp := fun vs H Q _ => ∃ (x dx cl : Addr) (b : Sw.Bytes), vs = [.ref x, .ref cl] ∧ H x = some (.ins (CR K) dx []) ∧ SqL K H cl (byV b) ∧ cl ≠ x ∧
  ∀ H' sg, SameX [x] H H' → Rdr K H' x cl sg b 0 → Q .non H'
theorem ok_rdInit (T : TRd K mg) : FnOk P w K mg base CX0 2 (ma K "Reader" "__init__") (fdA K (ma K "Reader" "__init__")) ["self", "codes"] (spRdInit K) := by
  have GP : FnOk P w K mg base CX0 1 (ga K "plain_signs") (fdA K (ga K "plain_signs")) [] spPlain := ok_plain_signs T.sp
  have bP := b_plain_signs T.sp.plain_signs.f
  refine T.RdI.f.ok sc_Reader___init__ (fun vs H Q E h => by obtain ⟨_, _, _, _, rfl, _⟩ := h; rfl) (fun cdv A outer s H vs Q E hr h => ⟨_, PSs.nox
    (pss_cons (ps_fld (pv 0) (pv 1) rfl) (pss_cons (ps_fld (pv 0) pe_int rfl) (pss_one (ps_fld (pv 0) (pe_call0 GP hr rfl T.sp.plain_signs.g T.sp.plain_signs.kp bP .nil pass0) rfl)))), ?_⟩)
  obtain ⟨x, dx, cl, b, rfl, hx, hS, hne, kQ⟩ := h
  have n := fun f h => T.rdN f h
  have l0 : ([] : List (Str × V)).length ≤ 0 := Nat.le_refl _
  refine ⟨_, rfl, _, rfl, x, _, dx, _, rfl, hx, T.RdC.cl, n _ (by simp), by decide, ?_⟩
  have l1 := putF_le (f := "codes") (v := .ref cl) l0
  refine ⟨_, rfl, x, _, dx, _, rfl, upd_same, T.RdC.cl, n _ (by simp), by omega, ?_⟩
  have l2 := putF_le (f := "at") (v := .int 0) l1
  refine ⟨rfl, fun H' sg s1 hsg => ?_⟩
  have hx' := s1 _ _ upd_same
  refine ⟨_, rfl, x, _, dx, _, rfl, hx', T.RdC.cl, n _ (by simp), by omega, ?_⟩
  have hne2 : sg ≠ x := fun e => by
    rw [e, hx'] at hsg
    cases hsg
  have e : putF "signs" (V.ref sg) (putF "at" (V.int 0) (putF "codes" (V.ref cl) [])) = rdF cl 0 sg := by kernel_rfl
  have s2 : SameX [x] H H' := by
    intro c u nc hc
    have c1 : c ≠ x := by simpa using nc
    exact s1 _ _ (by simp only [upd_ne c1]; exact hc)
  have s3 : SameX [x] H (upd H' x (.ins (CR K) dx (putF "signs" (V.ref sg) (putF "at" (V.int 0) (putF "codes" (V.ref cl) []))))) := s2.trans (samex_upd (by simp))
  refine kQ _ sg s3 ⟨⟨dx, ?_⟩, s3.seq (by simpa using hne) hS, ?_, hne, hne2, Nat.zero_le _⟩
  · rw [upd_same]
    exact congrArg (fun z => some (HO.ins (CR K) dx z)) e
  · rw [upd_ne hne2]
    exact hsg
/-- a raw record whose names are being read -/
structure RecAt (K : PySem.W.Frag) (H : Hp) (r x dx : Addr) (f : RF) (ns : List Str) (last : Sw.Bytes) : Prop where
  at_ : H x = some (.ins (CRaw K) dx f.fs)
  names : H f.nl = some (.lst (ns.map V.str))
  last : H f.ll = some (.lst (byV last))
  xr : x ≠ r
  nr : f.nl ≠ r
  nx : f.nl ≠ x
  lr : f.ll ≠ r
  lx : f.ll ≠ x
  ln : f.ll ≠ f.nl
theorem RecAt.to {H H' : Hp} {r x dx : Addr} {f : RF} {ns : List Str} {last : Sw.Bytes} (C : RecAt K H r x dx f ns last) (s : SameX [r] H H') : RecAt K H' r x dx f ns last :=
  ⟨s _ _ (by simpa using C.xr) C.at_, s _ _ (by simpa using C.nr) C.names, s _ _ (by simpa using C.lr) C.last, C.xr, C.nr, C.nx, C.lr, C.lx, C.ln⟩
theorem Rdr.upd {H : Hp} {r cl sg p : Addr} {b : Sw.Bytes} {at_ : Nat} {o : HO} (R : Rdr K H r cl sg b at_) (h1 : p ≠ r) (h2 : cl ≠ p) (h3 : sg ≠ p) : Rdr K (L2.upd H p o) r cl sg b at_ := by
  obtain ⟨⟨dx, q1⟩, q2, q3, q4, q5, q6⟩ := R
  have s : SameX [p] H (L2.upd H p o) := samex_upd (by simp)
  exact ⟨⟨dx, s _ _ (by simpa using Ne.symm h1) q1⟩, s.seq (by simpa using h2) q2, s _ _ (by simpa using h3) q3, q4, q5, q6⟩
theorem prev_bad : ∀ (prev : Option Sw.Bytes) (m : Sw.Bytes), m ≠ [] → Sw.bytesBefore (prev.getD []) m = false → Rd.before prev m = false
  | some q, m, _, h => h
  | none, [], n, _ => absurd rfl n
  | none, c :: m, _, h => by cases h
theorem prev_good : ∀ (prev : Option Sw.Bytes) (m : Sw.Bytes), Sw.bytesBefore (prev.getD []) m = true → ¬ Rd.before prev m = false
  | some q, m, h => fun z => by
    have h' : Sw.bytesBefore q m = true := h
    have z' : Sw.bytesBefore q m = false := z
    rw [h'] at z'
    cases z'
  | none, m, _ => fun z => by cases z
def spReadName (K : PySem.W.Frag) : Sp := fun vs H Q E => ∃ (r cl sg : Addr) (b : Sw.Bytes) (at_ : Nat) (x dx : Addr) (f : RF) (ns : List Str) (prev : Option Sw.Bytes), vs = [.ref r, .ref x] ∧ Rdr K H r cl sg b at_ ∧ b.length ≤ 100000 ∧ RecAt K H r x dx f ns (prev.getD []) ∧ ns.length < 200000 ∧ cl ≠ x ∧ cl ≠ f.nl ∧ sg ≠ x ∧ sg ≠ f.nl ∧
  (∀ m l, Rd.nameAt prev at_ (b.drop at_) = .ok (m, l) → ∀ H' ll, SameX [r, x, f.nl] H H' → Rdr K H' r cl sg b (at_ + l) → H ll = none → RecAt K H' r x dx { f with ll := ll } (ns ++ [spell m]) m → Q .non H') ∧
  (∀ e, Rd.nameAt prev at_ (b.drop at_) = .error e → Flts (CF K) E [r, x, f.nl] H 1 (e.place : Int))
theorem ok_read_name (T : TRd K mg) : FnOk P w K mg base (L2.CX P w) 5 (ma K "Reader" "read_name") (fdA K (ma K "Reader" "read_name")) ["self", "record"] (spReadName K) := by
  have GN : FnOk P w K mg base (L2.CX P w) 1 (ga K "need") (fdA K (ga K "need")) ["good", "place"] (spNeed K) := ok_need T.fa
  have bN := b_need T.fa.need.f
  have GV : FnOk P w K mg base (L2.CX P w) 3 (ma K "Reader" "varying") (fdA K (ma K "Reader" "varying")) ["self"] (spVary2 K) := ok_vary2 T
  have bV := b_Reader_varying T.varying.f
  have GR : FnOk P w K mg base (L2.CX P w) 4 (ma K "Reader" "read_text") (fdA K (ma K "Reader" "read_text")) ["self", "count"] (spReadText K) := ok_read_text T
  have bR := b_Reader_read_text T.read_text.f
  refine T.read_name.f.okX sc_Reader_read_name (fun vs H Q E h => by obtain ⟨_, _, _, _, _, _, _, _, _, _, rfl, _⟩ := h; rfl) (fun cdv A outer s H vs Q E hr h => ⟨_,
    (pss_cons (ps_set (i := 2) sc_Reader_read_name.nd rfl (Or.inl rfl) (pe_fld (pv 0) rfl))
    (pss_cons (ps_set (i := 3) sc_Reader_read_name.nd rfl (Or.inl rfl) (pe_meth0 (pv 0) T.RdC.cl T.varying.me GV (hr.mono (by decide)) bV .nil (passes_call (takes_of (E := E) rfl rfl rfl rfl) (fun _ _ _ _ h => h))))
    (pss_cons (ps_expr (pe_call GN (hr.mono (by decide)) rfl T.fa.need.g T.fa.need.kp bN .nil (passes_call (takes_of (E := E) rfl rfl rfl rfl) (fun _ _ _ _ h => h)) (pa_cons (pe_chain op_le op_le pe_int (pv 3) (pe_intT T.LONGEST_RECORD_NAME)) (pa_cons (pv 2) pa_nil))))
    (pss_cons (ps_expr (pe_bm PySem.F.plainAttrs_list PySem.F.slot_list_append PySem.F.type_list_append mt_append (pe_fld (pv 1) rfl) (pa_cons (pe_meth (pv 0) T.RdC.cl T.read_text.me GR hr bR .nil (passes_call (takes_of (E := E) rfl rfl rfl rfl) (fun _ _ _ _ h => h)) (pa_cons (pv 3) pa_nil)) pa_nil)))
    (pss_cons (ps_set (i := 4) sc_Reader_read_name.nd rfl (Or.inl rfl) (pe_slice sl_list (pe_fld (pv 0) rfl) (po_some (pe_op op_sub (pe_fld (pv 0) rfl) (pv 3))) (po_some (pe_fld (pv 0) rfl))))
    (pss_cons (ps_expr (pe_call GN (hr.mono (by decide)) rfl T.fa.need.g T.fa.need.kp bN .nil (passes_call (takes_of (E := E) rfl rfl rfl rfl) (fun _ _ _ _ h => h)) (pa_cons (pe_cmpR (op_ltBy hr.units0) (pe_fld (pv 1) rfl) (pv 4) (nomark _)) (pa_cons (pv 2) pa_nil))))
    (pss_one (ps_fld (pv 1) (pv 4) rfl)))))))), ?_⟩)
  obtain ⟨r, cl, sg, b, at_, x, dx, f, ns, prev, rfl, R, hb, C, hns, c1, c2, c3, c4, kOk, kEr⟩ := h
  unfold Rd.nameAt at kOk kEr
  have n := fun f h => T.rawN f h
  change tFld K (tVar 0) "at" _ _ _
  refine rdAt (i := 0) T R (by rfl) ?_
  obtain ⟨⟨d0, h1⟩, _⟩ := id R
  refine ⟨_, rfl, r, d0, _, rfl, h1, rdF_varying, r, cl, sg, b, at_, rfl, R, fun k l hv H1 s1 R1 => ?_, fun e he => ?_⟩
  · rw [hv] at kOk kEr
    dsimp only at kOk kEr
    have sX : ∀ {H H' : Hp}, SameX [r] H H' → SameX [r, x, f.nl] H H' := fun s => s.mono (by simp)
    have bad : ¬ (1 ≤ k ∧ k ≤ 255) → Flts (CF K) E [] H1 1 (at_ : Int) := fun q => by
      have : k = 0 ∨ Sw.NAME < k := by
        have : Sw.NAME = 255 := rfl
        omega
      rw [if_pos this] at kEr
      exact ((kEr _ rfl).from (sX s1)).less (by simp)
    refine ⟨_, rfl, _, _, rfl, rfl, _, rfl, iteD (fun e1 => ⟨_, _, rfl, rfl, _, rfl, _, _, rfl, fun g => ?_, fun g => ?_⟩) (fun e1 => ⟨_, rfl, _, _, rfl, fun g => Bool.noConfusion g, fun _ => bad (by omega)⟩)⟩
    · have g2 := of_decide_eq_true g
      have hk : ¬ (k = 0 ∨ Sw.NAME < k) := by
        have : Sw.NAME = 255 := rfl
        omega
      rw [if_neg hk] at kOk kEr
      have C1 := C.to s1
      obtain ⟨⟨d1, h1'⟩, _⟩ := id R1
      have hdd : (b.drop at_).drop l = b.drop (at_ + l) := by rw [List.drop_drop]
      rw [hdd] at kOk kEr
      dsimp only [tSeq, tDrop, tBM]
      refine rdFld (i := 1) (by rfl) C1.at_ T.RawC.cl (n _ (by simp)) f.l_names ?_
      refine ⟨.inl ⟨rfl, _, SqL.of C1.names⟩, _, rfl, r, d1, _, rfl, h1', rdF_read_text, _, rfl, r, cl, sg, b, at_ + l, k, rfl, R1, hb, fun m t hm ht H2 s2 R2 => ?_, fun e he => ?_, fun m e hm ht => ?_⟩
      · rw [hm] at kOk kEr
        dsimp only at kOk kEr
        rw [ht] at kOk kEr
        dsimp only at kOk kEr
        have C2 := C1.to s2
        obtain ⟨a1, a2, a3⟩ := Rd.someOf_ok hm
        have hle := R2.2.2.2.2.2
        refine ⟨f.nl, _, _, rfl, rfl, C2.names, by rw [List.length_map, sizeLine_eq]; omega, ?_⟩
        have R3 : Rdr K (upd H2 f.nl (.lst (ns.map V.str ++ [.str (spell m)]))) r cl sg b (at_ + l + k) := R2.upd C.nr c2 c4
        dsimp only [tSeq, tAsg, tSl, tPart, tOp, gName]
        refine rdCodes (i := 0) T R3 (by rfl) ?_
        refine rdAt (i := 0) T R3 (by rfl) ?_
        refine ⟨_, rfl, _, _, rfl, rfl, _, rfl, ?_⟩
        refine rdAt (i := 0) T R3 (by rfl) ?_
        refine ⟨_, rfl, cl, byV b, rfl, R3.2.1, fun q hq => ?_⟩
        have hcut : cutV (byV b) (some (((at_ + l + k : Nat) : Int) - (k : Int))) (some ((at_ + l + k : Nat) : Int)) = byV m := by
          have e : (((at_ + l + k : Nat) : Int) - (k : Int)) = ((at_ + l : Nat) : Int) := by omega
          rw [e, cut_byV (Nat.le_add_right _ _) hle, Nat.add_sub_cancel_left, ← a2]
        rw [hcut]
        have C3 : (upd H2 f.nl (.lst (ns.map V.str ++ [.str (spell m)]))) x = some (.ins (CRaw K) dx f.fs) := by
          rw [upd_ne (Ne.symm C.nx)]
          exact C2.at_
        have L3 : SqL K (upd H2 f.nl (.lst (ns.map V.str ++ [.str (spell m)]))) f.ll (byV (prev.getD [])) := SameX.seq (S := [f.nl]) (samex_upd (by simp)) (by simpa using C.ln) (SqL.of C2.last)
        have s34 := same_upd (o := HO.lst (byV m)) hq
        dsimp only [tSeq, tDrop, tCall, tCons, tOp]
        refine rdFld (i := 1) (by rfl) (s34 _ _ C3) T.RawC.cl (n _ (by simp)) f.l_last ?_
        have hm0 : m ≠ [] := fun z => by rw [z] at a3; simp at a3; omega
        have sAll : SameX [r, x, f.nl] H (upd (upd H2 f.nl (.lst (ns.map V.str ++ [.str (spell m)]))) q (.lst (byV m))) := ((sX s1).trans (sX s2)).trans ((samex_upd (by simp)).trans (SameX.of s34))
        refine ⟨_, rfl, f.ll, q, prev.getD [], m, rfl, rfl, s34.seq L3, SqL.of upd_same, _, rfl, _, _, rfl, fun g => ?_, fun g => ?_⟩
        · rw [if_neg (prev_good prev m g)] at kOk
          obtain ⟨q1, q2⟩ := none_upd hq
          have qx : q ≠ x := fun z => by rw [z, C2.at_] at q2; cases q2
          have qr : q ≠ r := fun z => by
            obtain ⟨⟨d2, h2⟩, _⟩ := R2
            rw [z, h2] at q2
            cases q2
          have e1 : putF "last_codes" (V.ref q) f.fs = { f with ll := q }.fs := f.p_last q
          refine ⟨_, rfl, _, rfl, x, _, dx, _, rfl, s34 _ _ C3, T.RawC.cl, n _ (by simp), f.len, ?_⟩
          rw [e1]
          have hHq : H q = none := by
            cases hc : H q with
            | none => rfl
            | some o =>
              have := (s1.trans s2) q o (by simpa using qr) hc
              rw [this] at q2
              cases q2
          have R4 : Rdr K (upd (upd (upd H2 f.nl (.lst (ns.map V.str ++ [.str (spell m)]))) q (.lst (byV m))) x (.ins (CRaw K) dx { f with ll := q }.fs)) r cl sg b (at_ + l + k) := (R3.same s34).upd C.xr c1 c3
          have e2 : at_ + l + k = at_ + (l + k) := by omega
          rw [e2] at R4
          refine kOk m (l + k) rfl _ q (sAll.trans (samex_upd (by simp))) R4 hHq ⟨upd_same, ?_, ?_, C.xr, C.nr, C.nx, qr, qx, q1⟩
          · show upd (upd (upd H2 f.nl _) q _) x _ f.nl = _
            rw [upd_ne C.nx, upd_ne (Ne.symm q1), upd_same, List.map_append]
            rfl
          · show upd (upd (upd H2 f.nl _) q _) x _ q = _
            rw [upd_ne qx, upd_same]
        · rw [if_pos (prev_bad prev m hm0 g)] at kEr
          exact ((kEr _ rfl).from sAll).less (by simp)
      · rw [he] at kEr
        exact ((kEr _ rfl).from (sX s1)).less (by simp)
      · rw [hm] at kEr
        dsimp only at kEr
        rw [ht] at kEr
        exact ((kEr _ rfl).from (sX s1)).less (by simp)
    · exact bad (fun q => by rw [decide_eq_true (show (k : Int) ≤ 255 by omega)] at g; cases g)
  · rw [he] at kEr
    exact (kEr _ rfl).less (by simp)
end
end Hs
end
section
set_option Elab.async false
set_option linter.all false
namespace Rd
open Sw
/-- what a value begins with: itself, if it has no members; else a list or record of so many -/
inductive Hd where
  | leaf (v : Value)
  | row (named : Bool) (n : Nat)
def beginAt (level p : Nat) : Bytes → Except Fault (Hd × Nat)
  | [] => .error ⟨1, p⟩
  | k :: r => if 8 < k.toNat then .error ⟨2, p⟩ else if DEEP < level then .error ⟨7, p⟩ else if k.toNat = 5 ∨ k.toNat = 6 then (match varyOf (p + 1) r with
      | .error e => .error e
      | .ok (n, l) => .ok (.row (k.toNat == 6) n, 1 + l)) else match leafAt k.toNat p r with
      | .error e => .error e
      | .ok (v, u) => .ok (.leaf v, u)
def rowVal (named : Bool) (m : Row) : Value := if named = true then .rec_ m else .list m
theorem vAt_begin (level p : Nat) (b : Bytes) : vAt level p b = match beginAt level p b with
    | .error e => .error e
    | .ok (.leaf v, u) => .ok (v, u)
    | .ok (.row named n, l) => match rAt level named n none (p + l) (b.drop l) with
      | .error e => .error e
      | .ok (m, u) => .ok (rowVal named m, l + u) := by
  cases b with
  | nil => rw [vAt_nil]; rfl
  | cons k r =>
    rw [vAt_cons, beginAt]
    by_cases h1 : 8 < k.toNat
    · rw [if_pos h1, if_pos h1]
    rw [if_neg h1, if_neg h1]
    by_cases h2 : DEEP < level
    · rw [if_pos h2, if_pos h2]
    rw [if_neg h2, if_neg h2]
    by_cases h3 : k.toNat = 5 ∨ k.toNat = 6
    · rw [if_pos h3, if_pos h3]
      cases varyOf (p + 1) r with
      | error e => rfl
      | ok x =>
        obtain ⟨n, l⟩ := x
        dsimp only
        have e1 : p + 1 + l = p + (1 + l) := by omega
        have e2 : (k :: r).drop (1 + l) = r.drop l := by rw [Nat.add_comm, List.drop_succ_cons]
        rw [e1, e2]
        cases rAt level (k.toNat == 6) n none (p + (1 + l)) (r.drop l) with
        | error e => rfl
        | ok y =>
          obtain ⟨m, u⟩ := y
          dsimp only
          unfold rowV rowVal
          by_cases h6 : k.toNat = 6
          · simp [h6]
          · simp [h6]
    · rw [if_neg h3, if_neg h3]
      cases leafAt k.toNat p r with
      | error e => rfl
      | ok x => rfl
theorem leaf_kind {k p : Nat} {r : Bytes} {v : Value} {n : Nat} (hk : k ≤ 8) (h5 : ¬ (k = 5 ∨ k = 6)) (h : leafAt k p r = .ok (v, n)) : v.kind = k := by
  have hj : k = 0 ∨ k = 1 ∨ k = 2 ∨ k = 3 ∨ k = 4 ∨ k = 7 ∨ k = 8 := by omega
  rcases hj with rfl | rfl | rfl | rfl | rfl | rfl | rfl
  all_goals simp only [leafAt] at h
  · injection h with h; obtain ⟨rfl, rfl⟩ := Prod.mk.inj h; rfl
  · injection h with h; obtain ⟨rfl, rfl⟩ := Prod.mk.inj h; rfl
  · split at h
    · cases h
    split at h
    · cases h
    split at h
    · cases h
    split at h
    · cases h
    injection h with h; obtain ⟨rfl, rfl⟩ := Prod.mk.inj h; rfl
  · split at h
    · cases h
    split at h
    · cases h
    injection h with h; obtain ⟨rfl, rfl⟩ := Prod.mk.inj h; rfl
  · split at h
    · cases h
    split at h
    · cases h
    split at h
    · cases h
    injection h with h; obtain ⟨rfl, rfl⟩ := Prod.mk.inj h; rfl
  · split at h
    · cases h
    injection h with h; obtain ⟨rfl, rfl⟩ := Prod.mk.inj h; rfl
  · split at h
    · cases h
    injection h with h; obtain ⟨rfl, rfl⟩ := Prod.mk.inj h; rfl
/-- a text's bytes; of others none -/
def textB : Value → Bytes
  | .text t => utf8 t
  | _ => []
def isBelow : Value → Bool
  | .num z => decide (z < 0)
  | _ => false
theorem begin_le {level p : Nat} {b : Bytes} {h : Hd} {n : Nat} (e : beginAt level p b = .ok (h, n)) : 0 < n ∧ n ≤ b.length := by
  cases b with
  | nil => cases e
  | cons k r =>
    rw [beginAt] at e
    split at e
    · cases e
    rename_i g1
    split at e
    · cases e
    split at e
    · split at e
      · cases e
      rename_i m l hv
      injection e with e; obtain ⟨rfl, rfl⟩ := Prod.mk.inj e
      obtain ⟨a1, _⟩ := vary_ok hv
      simp only [List.length_cons]
      omega
    · rename_i g3
      split at e
      · cases e
      rename_i v u hv
      injection e with e; obtain ⟨rfl, rfl⟩ := Prod.mk.inj e
      obtain ⟨a1, a2, a3, a4⟩ := leaf_ok g1 g3 hv
      exact ⟨a4, a1⟩
end Rd
end
section
set_option Elab.async false
set_option linter.all false
set_option maxRecDepth 100000
set_option maxHeartbeats 2000000
namespace Hs
open PySem PySem.Spec PyProof.Rows L2
def rfOf (h : Rd.Hd) (p : Nat) (nl ml ll : Addr) : RF := match h with
  | .leaf v => ⟨v.kind, p, spell (Rd.textB v), Rd.isBelow v, nl, ml, ll, 0, 1⟩
  | .row named n => ⟨if named = true then 6 else 5, p, "", false, nl, ml, ll, n, 1⟩
/-- a raw value that has just been begun -/
structure NewRaw (K : PySem.W.Frag) (H H' : Hp) (x : Addr) (f : RF) : Prop where
  at_ : ∃ dx, H' x = some (.ins (CRaw K) dx f.fs)
  names : H' f.nl = some (.lst [])
  members : H' f.ml = some (.lst [])
  last : H' f.ll = some (.lst [])
  fx : H x = none
  fn : H f.nl = none
  fm : H f.ml = none
  fl : H f.ll = none
  nx : f.nl ≠ x
  mx : f.ml ≠ x
  lx : f.ll ≠ x
  nm : f.nl ≠ f.ml
  nl : f.nl ≠ f.ll
  ml : f.ml ≠ f.ll
theorem fresh_back {H H1 : Hp} {r x : Addr} (s : SameX [r] H H1) (h : H1 x = none) (n : x ≠ r) : H x = none := by
  cases e : H x with
  | none => rfl
  | some o =>
    have := s x o (by simpa using n) e
    rw [h] at this
    cases this
theorem SameX.frame {H H1 : Hp} {S : List Addr} (s : SameX S H H1) {a : Addr} {o : HO} (h : H a = some o) (n : a ∉ S) : H1 a = some o := s a o n h
theorem spell_nil : spell [] = "" := by decide +kernel
theorem rf_leaf (v : Sw.Value) {p : Nat} {nl ml ll : Addr} (h : ∀ t, v ≠ .text t) : { RF.new v.kind p nl ml ll with below := Rd.isBelow v } = rfOf (.leaf v) p nl ml ll := by
  have e : Rd.textB v = [] := by
    cases v with
    | text t => exact absurd rfl (h t)
    | _ => rfl
  unfold rfOf
  dsimp only
  rw [e, spell_nil]
  rfl
theorem NewRaw.step {K : PySem.W.Frag} {H H' H'' : Hp} {x r : Addr} {f : RF} {o : HO} (N : NewRaw K H H' x f) (h : H r = some o) (s : SameX [r] H' H'') : NewRaw K H H'' x f := by
  have ne : ∀ {a : Addr}, H a = none → a ∉ [r] := fun {a} e => by
    intro q
    have : a = r := by simpa using q
    rw [this, h] at e
    cases e
  obtain ⟨⟨dx, q1⟩, q2, q3, q4, q5, q6, q7, q8, q9, q10, q11, q12, q13, q14⟩ := N
  exact ⟨⟨dx, s _ _ (ne q5) q1⟩, s _ _ (ne q6) q2, s _ _ (ne q7) q3, s _ _ (ne q8) q4, q5, q6, q7, q8, q9, q10, q11, q12, q13, q14⟩
theorem NewRaw.put {K : PySem.W.Frag} {H H' : Hp} {x dx : Addr} {f g : RF} (N : NewRaw K H H' x f) (e1 : g.nl = f.nl) (e2 : g.ml = f.ml) (e3 : g.ll = f.ll) : NewRaw K H (upd H' x (.ins (CRaw K) dx g.fs)) x g := by
  obtain ⟨q1, q2, q3, q4, q5, q6, q7, q8, q9, q10, q11, q12, q13, q14⟩ := N
  rw [← e1] at q2 q6 q9 q12 q13
  rw [← e2] at q3 q7 q10 q12 q14
  rw [← e3] at q4 q8 q11 q13 q14
  exact ⟨⟨dx, upd_same⟩, by rw [upd_ne q9]; exact q2, by rw [upd_ne q10]; exact q3, by rw [upd_ne q11]; exact q4, q5, q6, q7, q8, q9, q10, q11, q12, q13, q14⟩
theorem NewRaw.back {K : PySem.W.Frag} {H H1 H' : Hp} {x r : Addr} {f : RF} {o : HO} (N : NewRaw K H1 H' x f) (h : H1 r = some o) (s : SameX [r] H H1) : NewRaw K H H' x f := by
  have ne : ∀ {a : Addr}, H1 a = none → H a = none := fun {a} e => fresh_back s e (fun q => by rw [q, h] at e; cases e)
  obtain ⟨q1, q2, q3, q4, q5, q6, q7, q8, q9, q10, q11, q12, q13, q14⟩ := N
  exact ⟨q1, q2, q3, q4, ne q5, ne q6, ne q7, ne q8, q9, q10, q11, q12, q13, q14⟩
section
variable {P : Program} {w : World} {K : PySem.W.Frag} {mg : Str → Option Value} {base : Heap}
def spBegin (K : PySem.W.Frag) : Sp := fun vs H Q E => ∃ (r cl sg : Addr) (b : Sw.Bytes) (at_ level : Nat), vs = [.ref r, .int (level : Int)] ∧ Rdr K H r cl sg b at_ ∧ b.length ≤ 100000 ∧
  (∀ hd n, Rd.beginAt level at_ (b.drop at_) = .ok (hd, n) → ∀ H' x nl ml ll, SameX [r] H H' → Rdr K H' r cl sg b (at_ + n) → NewRaw K H H' x (rfOf hd at_ nl ml ll) → Q (.ref x) H') ∧
  (∀ e, Rd.beginAt level at_ (b.drop at_) = .error e → Flts (CF K) E [r] H 1 (e.place : Int))
theorem ok_begin (T : TRd K mg) : FnOk P w K mg base (L2.CX P w) 5 (ma K "Reader" "begin") (fdA K (ma K "Reader" "begin")) ["self", "level"] (spBegin K) := by
  have GN : FnOk P w K mg base (L2.CX P w) 1 (ga K "need") (fdA K (ga K "need")) ["good", "place"] (spNeed K) := ok_need T.fa
  have bN := b_need T.fa.need.f
  have GT : FnOk P w K mg base (L2.CX P w) 2 (ma K "Reader" "take") (fdA K (ma K "Reader" "take")) ["self", "count"] (spTake2 K) := ok_take2 T
  have bT := b_Reader_take T.take.f
  have GV : FnOk P w K mg base (L2.CX P w) 3 (ma K "Reader" "varying") (fdA K (ma K "Reader" "varying")) ["self"] (spVary2 K) := ok_vary2 T
  have bV := b_Reader_varying T.varying.f
  have GR : FnOk P w K mg base (L2.CX P w) 4 (ma K "Reader" "read_text") (fdA K (ma K "Reader" "read_text")) ["self", "count"] (spReadText K) := ok_read_text T
  have bR := b_Reader_read_text T.read_text.f
  have GB : FnOk P w K mg base (L2.CX P w) 4 (ma K "Reader" "number_is_below") (fdA K (ma K "Reader" "number_is_below")) ["self", "place"] (spNib K) := ok_nib T
  have bB := b_Reader_number_is_below T.number_is_below.f
  have GI : FnOk P w K mg base CX0 1 (ma K "Raw" "__init__") (fdA K (ma K "Raw" "__init__")) ["self", "kind", "place"] (spRawInit K) := ok_rawInit T
  have bI := b_Raw___init__ T.RawI.f
  refine T.begin_.f.okX sc_Reader_begin (fun vs H Q E h => by obtain ⟨_, _, _, _, _, _, rfl, _⟩ := h; rfl) (fun cdv A outer s H vs Q E hr h => ⟨_,
    (pss_cons (ps_set (i := 2) sc_Reader_begin.nd rfl (Or.inl rfl) (pe_meth (pv 0) T.RdC.cl T.take.me GT (hr.mono (by decide)) bT .nil (passes_call (takes_of (E := E) rfl rfl rfl rfl) (fun _ _ _ _ h => h)) (pa_cons pe_int pa_nil)))
    (pss_cons (ps_set (i := 3) sc_Reader_begin.nd rfl (Or.inl rfl) (pe_ix ix_list (pe_fld (pv 0) rfl) (pv 2) (fun _ _ => rfl)))
    (pss_cons (ps_expr (pe_call GN (hr.mono (by decide)) rfl T.fa.need.g T.fa.need.kp bN .nil (passes_call (takes_of (E := E) rfl rfl rfl rfl) (fun _ _ _ _ h => h))
      (pa_cons (pe_and (pe_cmpR op_le (pv 3) (pe_intT T.ID) (nomark _)) (pe_one (pe_cmpR op_le (pv 1) (pe_intT T.DEEPEST) (nomark _)))) (pa_cons (pv 2) pa_nil))))
    (pss_cons (ps_set (i := 4) sc_Reader_begin.nd rfl (Or.inl rfl) (by exact (pe_make T.RawC.mkr GI (hr.mono (by decide)) rfl T.RawC.g bI .nil pass0 (pa_cons (pv 3) (pa_cons (pv 2) pa_nil)))))
    (pss_cons (ps_if (pt_cmpR op_eq (pv 3) (pe_intT T.NUMBER) (nomark _))
        (pss_one (ps_fld (pv 4) (pe_meth (pv 0) T.RdC.cl T.number_is_below.me GB (hr.mono (by decide)) bB .nil (passes_call (takes_of (E := E) rfl rfl rfl rfl) (fun _ _ _ _ h => h)) (pa_cons (pv 2) pa_nil)) rfl))
      (pss_one (ps_if (pt_cmpR op_eq (pv 3) (pe_intT T.BYTES) (nomark _))
        (pss_one (ps_expr (pe_meth (pv 0) T.RdC.cl T.take.me GT (hr.mono (by decide)) bT .nil (passes_call (takes_of (E := E) rfl rfl rfl rfl) (fun _ _ _ _ h => h))
          (pa_cons (pe_meth0 (pv 0) T.RdC.cl T.varying.me GV (hr.mono (by decide)) bV .nil (passes_call (takes_of (E := E) rfl rfl rfl rfl) (fun _ _ _ _ h => h))) pa_nil))))
      (pss_one (ps_if (pt_cmpR op_eq (pv 3) (pe_intT T.TEXT) (nomark _))
        (pss_one (ps_fld (pv 4) (pe_meth (pv 0) T.RdC.cl T.read_text.me GR (hr.mono (by decide)) bR .nil (passes_call (takes_of (E := E) rfl rfl rfl rfl) (fun _ _ _ _ h => h))
          (pa_cons (pe_meth0 (pv 0) T.RdC.cl T.varying.me GV (hr.mono (by decide)) bV .nil (passes_call (takes_of (E := E) rfl rfl rfl rfl) (fun _ _ _ _ h => h))) pa_nil)) rfl))
      (pss_one (ps_if (PW.pt (pw_or (pt_cmpR op_eq (pv 3) (pe_intT T.LIST) (nomark _)) (pw_or1 (pt_cmpR op_eq (pv 3) (pe_intT T.RECORD) (nomark _)))))
        (pss_one (ps_fld (pv 4) (pe_meth0 (pv 0) T.RdC.cl T.varying.me GV (hr.mono (by decide)) bV .nil (passes_call (takes_of (E := E) rfl rfl rfl rfl) (fun _ _ _ _ h => h))) rfl))
      (pss_one (ps_if (pt_cmpR op_eq (pv 3) (pe_intT T.MOMENT) (nomark _))
        (pss_one (ps_expr (pe_meth (pv 0) T.RdC.cl T.take.me GT (hr.mono (by decide)) bT .nil (passes_call (takes_of (E := E) rfl rfl rfl rfl) (fun _ _ _ _ h => h)) (pa_cons pe_int pa_nil))))
      (pss_one (ps_if (pt_cmpR op_eq (pv 3) (pe_intT T.ID) (nomark _))
        (pss_one (ps_expr (pe_meth (pv 0) T.RdC.cl T.take.me GT (hr.mono (by decide)) bT .nil (passes_call (takes_of (E := E) rfl rfl rfl rfl) (fun _ _ _ _ h => h)) (pa_cons pe_int pa_nil))))
        pss_nil)))))))))))
    (pss_one (ps_ret (pv 4)))))))), ?_⟩)
  obtain ⟨r, cl, sg, b, at_, level, rfl, R, hb, kOk, kEr⟩ := h
  have n := fun f h => T.rawN f h
  obtain ⟨⟨d0, h1⟩, _⟩ := id R
  have hl := R.2.2.2.2.2
  refine ⟨_, rfl, r, d0, _, rfl, h1, rdF_take, r, cl, sg, b, at_, 1, rfl, R, fun m hm H1 s1 R1 => ?_, fun e he => ?_⟩
  · obtain ⟨a1, a2, a3⟩ := Rd.someOf_ok hm
    rw [List.length_drop] at a1
    obtain ⟨c, hc⟩ : ∃ c, b[at_]? = some c := ⟨_, List.getElem?_eq_getElem (by omega)⟩
    have hd : b.drop at_ = c :: b.drop (at_ + 1) := by
      rw [List.drop_eq_getElem_cons (by omega)]
      congr 1
      exact (List.getElem?_eq_some_iff.mp hc).2
    rw [hd, Rd.beginAt] at kOk kEr
    dsimp only [gName, tSeq, tAsg, tOp]
    refine rdCodes (i := 0) T R1 (by rfl) ?_
    refine ⟨_, rfl, cl, byV b, _, V.int (c.toNat : Int), rfl, rfl, R1.2.1, atI_nat (byV_at hc), ?_⟩
    have bad : ¬ (c.toNat ≤ 8 ∧ level ≤ 64) → Flts (CF K) E [] H1 1 (at_ : Int) := fun q => by
      by_cases g : 8 < c.toNat
      · rw [if_pos g] at kEr
        exact ((kEr _ rfl).from s1).less (by simp)
      · rw [if_neg g, if_pos (show Sw.DEEP < level by show 64 < level; omega)] at kEr
        exact ((kEr _ rfl).from s1).less (by simp)
    refine ⟨_, rfl, _, _, rfl, rfl, _, rfl, ?_⟩
    refine iteD (fun e1 => ⟨_, rfl, _, _, rfl, rfl, _, rfl, _, _, rfl, fun g => ?_, fun g => ?_⟩) (fun e1 => ⟨_, rfl, _, _, rfl, fun g => Bool.noConfusion g, fun _ => bad (by omega)⟩)
    · rw [if_neg (show ¬ 8 < c.toNat by omega), if_neg (show ¬ Sw.DEEP < level by have q := of_decide_eq_true g; show ¬ 64 < level; omega)] at kOk kEr
      dsimp only [gName, tSeq, tAsg, tOp]
      refine ⟨_, rfl, _, rfl, fun x dx nx ndx nxd => ⟨x, dx, c.toNat, at_, rfl, upd_same, fun H2 nl ml ll s2 q1 q2 q3 q4 q5 q6 q7 q8 q9 q10 => ⟨rfl, ?_⟩⟩⟩
      obtain ⟨a5, q5⟩ := none_upd q5
      obtain ⟨b5, q5⟩ := none_upd q5
      obtain ⟨a6, q6⟩ := none_upd q6
      obtain ⟨b6, q6⟩ := none_upd q6
      obtain ⟨a7, q7⟩ := none_upd q7
      obtain ⟨b7, q7⟩ := none_upd q7
      have N0 : NewRaw K H1 H2 x (RF.new c.toNat at_ nl ml ll) := ⟨⟨dx, q1⟩, q2, q3, q4, nx, q5, q6, q7, a5, a6, a7, q8, q9, q10⟩
      have S12 : Same H1 H2 := by
        intro u o hu
        have u1 := ne_of_none hu nx
        have u2 := ne_of_none hu ndx
        refine s2 _ _ (by simpa using u1) ?_
        rw [upd_ne u1, upd_ne u2]
        exact hu
      have R2 := R1.same S12
      obtain ⟨⟨d1, h1'⟩, _⟩ := id R1
      obtain ⟨⟨d2, h2'⟩, _⟩ := id R2
      have NB : ∀ {H' f}, NewRaw K H1 H' x f → NewRaw K H H' x f := fun N => N.back h1' s1
      have NS : ∀ {H' H'' f}, NewRaw K H1 H' x f → SameX [r] H' H'' → NewRaw K H1 H'' x f := fun N s => N.step h1' s
      have xr : x ≠ r := fun z => by rw [z, h1'] at nx; cases nx
      have s02 : SameX [r] H H2 := s1.trans (SameX.of S12)
      have SU1 : ∀ {H' : Hp} {o : HO}, SameX [r] H2 H' → SameX [r] H1 (upd H' x o) := fun {H' o} s => by
        intro u w hu hw
        have := s u w hu (S12 u w hw)
        have ux : u ≠ x := ne_of_none hw nx
        rw [upd_ne ux]
        exact this
      have SU : ∀ {H' : Hp} {o : HO}, SameX [r] H2 H' → SameX [r] H (upd H' x o) := fun s => s1.trans (SU1 s)
      have RU : ∀ {H' : Hp} {o : HO} {n : Nat}, SameX [r] H2 H' → Rdr K H' r cl sg b n → Rdr K (upd H' x o) r cl sg b n := fun {H' o n} s R' => by
        obtain ⟨⟨d, z⟩, _, _, _, _, hle⟩ := R'
        exact R1.to (SU1 s) ⟨d, by rw [upd_ne (Ne.symm xr)]; exact z⟩ hle
      refine ⟨_, rfl, rfl, _, rfl, ?_⟩
      rw [dec_int]
      refine iteD (fun e2 => ?_) (fun n2 => ?_)
      · have hk : c.toNat = 2 := by omega
        rw [hk, if_neg (by decide)] at kOk kEr
        refine ⟨_, rfl, r, d2, _, rfl, h2', rdF_nib, _, rfl, r, cl, sg, b, at_, rfl, R2, fun z m hv H3 s3 R3 => ?_, fun e he => ?_⟩
        · rw [hv] at kOk
          obtain ⟨dx3, q⟩ := (NS N0 s3).at_
          refine ⟨_, rfl, x, _, dx3, _, rfl, q, T.RawC.cl, n _ (by simp), RF.len _, ?_⟩
          rw [RF.p_below]
          refine ⟨_, rfl, kOk _ _ rfl _ x nl ml ll (SU s3) (RU s3 R3) (NB ?_)⟩
          have e : ({ RF.new c.toNat at_ nl ml ll with below := decide (z < 0) } : RF) = rfOf (.leaf (.num z)) at_ nl ml ll := by
            rw [hk]
            exact rf_leaf (.num z) (fun _ h => by cases h)
          rw [← e]
          exact (NS N0 s3).put rfl rfl rfl
        · rw [he] at kEr
          exact (kEr _ rfl).from s02
      refine ⟨_, rfl, rfl, _, rfl, ?_⟩
      rw [dec_int]
      refine iteD (fun e3 => ?_) (fun n3 => ?_)
      · have hk : c.toNat = 3 := by omega
        rw [hk, if_neg (by decide)] at kOk kEr
        refine ⟨_, rfl, r, d2, _, rfl, h2', rdF_take, _, rfl, r, d2, _, rfl, h2', rdF_varying, r, cl, sg, b, at_ + 1, rfl, R2, fun z l hv H3 s3 R3 => ?_, fun e he => ?_⟩
        · have hdd : (b.drop (at_ + 1)).drop l = b.drop (at_ + 1 + l) := by rw [List.drop_drop]
          simp only [Rd.leafAt] at kOk kEr
          rw [hv] at kOk kEr
          dsimp only at kOk kEr
          rw [hdd] at kOk kEr
          obtain ⟨⟨d3, h3'⟩, _⟩ := id R3
          refine ⟨r, cl, sg, b, at_ + 1 + l, z, rfl, R3, fun m hm H4 s4 R4 => ?_, fun e he => ?_⟩
          · rw [hm] at kOk
            have e5 : at_ + 1 + l + z = at_ + (1 + l + z) := by omega
            rw [e5] at R4
            refine ⟨_, rfl, kOk _ _ rfl _ x nl ml ll (s02.trans (s3.trans s4)) R4 (NB ?_)⟩
            rw [hk] at N0
            rw [← rf_leaf (.bytes m) (fun _ h => by cases h)]
            exact NS N0 (s3.trans s4)
          · rw [he] at kEr
            exact (kEr _ rfl).from (s02.trans s3)
        · simp only [Rd.leafAt] at kEr
          rw [he] at kEr
          exact (kEr _ rfl).from s02
      refine ⟨_, rfl, rfl, _, rfl, ?_⟩
      rw [dec_int]
      refine iteD (fun e4 => ?_) (fun n4 => ?_)
      · have hk : c.toNat = 4 := by omega
        rw [hk, if_neg (by decide)] at kOk kEr
        simp only [Rd.leafAt] at kOk kEr
        refine ⟨_, rfl, r, d2, _, rfl, h2', rdF_read_text, _, rfl, r, d2, _, rfl, h2', rdF_varying, r, cl, sg, b, at_ + 1, rfl, R2, fun z l hv H3 s3 R3 => ?_, fun e he => ?_⟩
        · have hdd : (b.drop (at_ + 1)).drop l = b.drop (at_ + 1 + l) := by rw [List.drop_drop]
          rw [hv] at kOk kEr
          dsimp only at kOk kEr
          rw [hdd] at kOk kEr
          refine ⟨r, cl, sg, b, at_ + 1 + l, z, rfl, R3, hb, fun m t hm ht H4 s4 R4 => ?_, fun e he => ?_, fun m e hm ht => ?_⟩
          · rw [hm] at kOk
            dsimp only at kOk
            rw [ht] at kOk
            have s34 := s3.trans s4
            obtain ⟨dx3, q⟩ := (NS N0 s34).at_
            have e5 : at_ + 1 + l + z = at_ + (1 + l + z) := by omega
            rw [e5] at R4
            refine ⟨_, rfl, x, _, dx3, _, rfl, q, T.RawC.cl, n _ (by simp), RF.len _, ?_⟩
            rw [RF.p_text]
            refine ⟨_, rfl, kOk _ _ rfl _ x nl ml ll (SU s34) (RU s34 R4) (NB ?_)⟩
            have e : ({ RF.new c.toNat at_ nl ml ll with text := spell m } : RF) = rfOf (.leaf (.text t)) at_ nl ml ll := by
              rw [hk, ← Rd.textOf_utf8 ht]
              rfl
            rw [← e]
            exact (NS N0 s34).put rfl rfl rfl
          · rw [he] at kEr
            exact (kEr _ rfl).from (s02.trans s3)
          · rw [hm] at kEr
            dsimp only at kEr
            rw [ht] at kEr
            exact (kEr _ rfl).from (s02.trans s3)
        · rw [he] at kEr
          exact (kEr _ rfl).from s02
      have rowC : (c.toNat = 5 ∨ c.toNat = 6) → ∀ {D : L2.St} (hD : D = [some (V.ref r), some (V.int (level : Int)), some (V.int (at_ : Int)), some (V.int (c.toNat : Int)), some (V.ref x)]), sFld K (tVar 4) (tMeth (ga K "Reader") "varying" (spVary2 K) [] E (tVar 0) tNil) "missing" { nx := tRet (tVar 4) { nx := fun _ H' => Q .non H', rt := Q }, rt := Q } D H2 := fun hk D hD => by
        subst hD
        rw [if_pos hk] at kOk kEr
        refine ⟨_, rfl, r, d2, _, rfl, h2', rdF_varying, r, cl, sg, b, at_ + 1, rfl, R2, fun z l hv H3 s3 R3 => ?_, fun e he => ?_⟩
        · rw [hv] at kOk
          obtain ⟨dx3, q⟩ := (NS N0 s3).at_
          have e5 : at_ + 1 + l = at_ + (1 + l) := by omega
          rw [e5] at R3
          refine ⟨_, rfl, x, _, dx3, _, rfl, q, T.RawC.cl, n _ (by simp), RF.len _, ?_⟩
          rw [RF.p_missing]
          refine ⟨_, rfl, kOk _ _ rfl _ x nl ml ll (SU s3) (RU s3 R3) (NB ?_)⟩
          have e : ({ RF.new c.toNat at_ nl ml ll with missing := z } : RF) = rfOf (.row (c.toNat == 6) z) at_ nl ml ll := by
            rcases hk with hk | hk
            · rw [hk]; rfl
            · rw [hk]; rfl
          rw [← e]
          exact (NS N0 s3).put rfl rfl rfl
        · rw [he] at kEr
          exact (kEr _ rfl).from s02
      refine ⟨_, rfl, rfl, _, rfl, ?_⟩
      rw [dec_int]
      refine iteD (fun e5 => iteT ?_) (fun n5 => ⟨_, rfl, rfl, _, rfl, ?_⟩)
      · exact rowC (.inl (by omega)) rfl
      rw [dec_int]
      refine iteD (fun e6 => ?_) (fun n6 => ?_)
      · exact rowC (.inr (by omega)) rfl
      rw [if_neg (show ¬ (c.toNat = 5 ∨ c.toNat = 6) by omega)] at kOk kEr
      refine ⟨_, rfl, rfl, _, rfl, ?_⟩
      rw [dec_int]
      refine iteD (fun e7 => ?_) (fun n7 => ?_)
      · have hk : c.toNat = 7 := by omega
        rw [hk] at kOk kEr
        simp only [Rd.leafAt] at kOk kEr
        refine ⟨_, rfl, r, d2, _, rfl, h2', rdF_take, r, cl, sg, b, at_ + 1, 8, rfl, R2, fun m hm H3 s3 R3 => ?_, fun e he => ?_⟩
        · rw [hm] at kOk
          refine ⟨_, rfl, kOk _ _ rfl _ x nl ml ll (s02.trans s3) R3 (NB ?_)⟩
          rw [hk] at N0
          rw [← rf_leaf (.moment _) (fun _ h => by cases h)]
          exact NS N0 s3
        · rw [he] at kEr
          exact (kEr _ rfl).from s02
      refine ⟨_, rfl, rfl, _, rfl, ?_⟩
      rw [dec_int]
      refine iteD (fun e8 => ?_) (fun n8 => ?_)
      · have hk : c.toNat = 8 := by omega
        rw [hk] at kOk kEr
        simp only [Rd.leafAt] at kOk kEr
        refine ⟨_, rfl, r, d2, _, rfl, h2', rdF_take, r, cl, sg, b, at_ + 1, 32, rfl, R2, fun m hm H3 s3 R3 => ?_, fun e he => ?_⟩
        · rw [hm] at kOk
          refine ⟨_, rfl, kOk _ _ rfl _ x nl ml ll (s02.trans s3) R3 (NB ?_)⟩
          rw [hk] at N0
          rw [← rf_leaf (.id _) (fun _ h => by cases h)]
          exact NS N0 s3
        · rw [he] at kEr
          exact (kEr _ rfl).from s02
      rcases (show c.toNat = 0 ∨ c.toNat = 1 by omega) with hk | hk
      · rw [hk] at kOk
        refine ⟨_, rfl, kOk _ _ rfl _ x nl ml ll s02 R2 (NB ?_)⟩
        rw [hk] at N0
        rw [← rf_leaf .no (fun _ h => by cases h)]
        exact N0
      · rw [hk] at kOk
        refine ⟨_, rfl, kOk _ _ rfl _ x nl ml ll s02 R2 (NB ?_)⟩
        rw [hk] at N0
        rw [← rf_leaf .yes (fun _ h => by cases h)]
        exact N0
    · exact bad (fun q => by rw [decide_eq_true (show (level : Int) ≤ 64 by omega)] at g; cases g)
  · have hz : b.drop at_ = [] := by
      cases hb : b.drop at_ with
      | nil => rfl
      | cons c r => rw [hb] at he; unfold Sw.someOf at he; rw [if_neg (by simp)] at he; cases he
    rw [hz] at he kEr
    have : e = ⟨1, at_⟩ := by
      unfold Sw.someOf at he
      rw [if_pos (by simp)] at he
      exact (Except.error.inj he).symm
    subst this
    exact kEr _ rfl
end
end Hs
end
section
set_option Elab.async false
set_option linter.all false
namespace Rd
open Sw
/-! ### the stack in place of the recursion -/
abbrev RL := List (Bytes × Value)
def mkRow : RL → Row → Row
  | [], m => m
  | (n, v) :: l, m => .cons n v (mkRow l m)
def toRow (l : RL) : Row := mkRow l .nil
theorem mkRow_snoc : ∀ (l : RL) (n : Bytes) (v : Value) (m : Row), mkRow (l ++ [(n, v)]) m = mkRow l (.cons n v m)
  | [], _, _, _ => rfl
  | (_, _) :: l, n, v, m => by rw [List.cons_append, mkRow, mkRow, mkRow_snoc l n v m]
theorem toRow_len : ∀ l : RL, (toRow l).length = l.length
  | [] => rfl
  | (_, _) :: l => congrArg (· + 1) (toRow_len l)
theorem toRow_deep : ∀ (l : RL) (n : Bytes) (v : Value), (toRow (l ++ [(n, v)])).deep = max (toRow l).deep v.deep
  | [], n, v => by
    show max v.deep 0 = max 0 v.deep
    exact Nat.max_comm _ _
  | (k, x) :: l, n, v => by
    show max x.deep (toRow (l ++ [(n, v)])).deep = max (max x.deep (toRow l).deep) v.deep
    rw [toRow_deep l n v, Nat.max_assoc]
def nameB (named : Bool) (n : Bytes) : Bytes := if named = true then vary n.length ++ n else []
theorem toRow_enc (named : Bool) : ∀ (l : RL) (n : Bytes) (v : Value), (toRow (l ++ [(n, v)])).enc named = (toRow l).enc named ++ (nameB named n ++ v.enc)
  | [], n, v => by
    show (Row.cons n v .nil).enc named = _
    rw [Row.enc, Row.enc]
    show nameB named n ++ (v.enc ++ []) = (Row.enc .nil named) ++ _
    rw [Row.enc, List.append_nil]
    rfl
  | (k, x) :: l, n, v => by
    show (Row.cons k x (toRow (l ++ [(n, v)]))).enc named = (Row.cons k x (toRow l)).enc named ++ _
    rw [Row.enc, Row.enc, toRow_enc named l n v]
    simp only [List.append_assoc]
theorem toRow_names : ∀ (l : RL) (n : Bytes) (v : Value), (toRow (l ++ [(n, v)])).names = (toRow l).names ++ [n]
  | [], _, _ => rfl
  | (k, _) :: l, n, v => congrArg (k :: ·) (toRow_names l n v)
theorem enc_pos (v : Value) : 0 < v.enc.length := by
  cases v <;> rw [Value.enc] <;> simp
theorem row_len_enc (named : Bool) : ∀ m : Row, m.length ≤ (m.enc named).length
  | .nil => Nat.zero_le _
  | .cons n v r => by
    have h := row_len_enc named r
    have h2 := enc_pos v
    rw [Row.enc]
    simp only [List.length_append]
    show r.length + 1 ≤ _
    omega
/-- a list or record one of whose members is being read -/
structure Fr where
  named : Bool
  pre : RL
  left : Nat
  pend : Bytes
/-- what is on top: a value without members, or a list or record between its members -/
inductive Tp where
  | leaf (v : Value)
  | row (named : Bool) (pre : RL) (left : Nat) (prev : Option Bytes)
def tpOf : Hd → Tp
  | .leaf v => .leaf v
  | .row named n => .row named [] n none
def up (b : Bytes) : List Fr → Value → Nat → Except Fault (Value × Nat)
  | [], v, p => .ok (v, p)
  | fr :: fs, v, p => match rAt (fs.length + 1) fr.named fr.left (some fr.pend) p (b.drop p) with
    | .error e => .error e
    | .ok (m, u) => up b fs (rowVal fr.named (mkRow (fr.pre ++ [(fr.pend, v)]) m)) (p + u)
def res (b : Bytes) (fs : List Fr) (t : Tp) (p : Nat) : Except Fault (Value × Nat) := match t with
  | .leaf v => up b fs v p
  | .row named pre left prev => match rAt (fs.length + 1) named left prev p (b.drop p) with
    | .error e => .error e
    | .ok (m, u) => up b fs (rowVal named (mkRow pre m)) (p + u)
theorem res_init (b : Bytes) : vAt 1 0 b = match beginAt 1 0 b with
    | .error e => .error e
    | .ok (hd, n) => res b [] (tpOf hd) n := by
  rw [vAt_begin]
  cases beginAt 1 0 b with
  | error e => rfl
  | ok x =>
    obtain ⟨hd, n⟩ := x
    cases hd with
    | leaf v => rfl
    | row named k =>
      dsimp only [tpOf, res, List.length_nil]
      rw [Nat.zero_add]
      cases rAt 1 named k none n (b.drop n) <;> rfl
theorem up_cons (b : Bytes) (fr : Fr) (fs : List Fr) (v : Value) (p : Nat) : up b (fr :: fs) v p = res b fs (.row fr.named (fr.pre ++ [(fr.pend, v)]) fr.left (some fr.pend)) p := rfl
theorem res_zero (b : Bytes) (fs : List Fr) (named : Bool) (pre : RL) (prev : Option Bytes) (p : Nat) : res b fs (.row named pre 0 prev) p = up b fs (rowVal named (toRow pre)) p := by
  unfold res
  dsimp only
  rw [rAt_zero]
  rfl
theorem res_down (b : Bytes) (fs : List Fr) (named : Bool) (pre : RL) (n : Nat) (prev : Option Bytes) (p : Nat) : res b fs (.row named pre (n + 1) prev) p = match firstAt named prev p (b.drop p) with
    | .error e => .error e
    | .ok (name, l) => match beginAt (fs.length + 2) (p + l) (b.drop (p + l)) with
      | .error e => .error e
      | .ok (hd, u) => res b (⟨named, pre, n, name⟩ :: fs) (tpOf hd) (p + l + u) := by
  unfold res
  dsimp only
  rw [rAt_succ]
  cases firstAt named prev p (b.drop p) with
  | error e => rfl
  | ok x =>
    obtain ⟨name, l⟩ := x
    dsimp only
    have hd1 : (b.drop p).drop l = b.drop (p + l) := List.drop_drop
    rw [hd1, vAt_begin]
    cases beginAt (fs.length + 1 + 1) (p + l) (b.drop (p + l)) with
    | error e => rfl
    | ok y =>
      obtain ⟨hd, u⟩ := y
      have drops : ∀ u : Nat, (b.drop p).drop (l + u) = b.drop (p + l + u) := fun u => by rw [List.drop_drop, Nat.add_assoc]
      cases hd with
      | leaf v =>
        dsimp only [tpOf, up]
        rw [drops]
        cases rAt (fs.length + 1) named n (some name) (p + l + u) (b.drop (p + l + u)) with
        | error e => rfl
        | ok z =>
          obtain ⟨m, w⟩ := z
          dsimp only
          rw [mkRow_snoc]
          congr 1
          omega
      | row nm k =>
        dsimp only [tpOf, List.length_cons]
        rw [List.drop_drop]
        cases rAt (fs.length + 1 + 1) nm k none (p + l + u) (b.drop (p + l + u)) with
        | error e => rfl
        | ok z =>
          obtain ⟨m, w⟩ := z
          dsimp only [up, mkRow]
          rw [drops]
          have e1 : p + l + (u + w) = p + l + u + w := by omega
          rw [e1]
          cases rAt (fs.length + 1) named n (some name) (p + l + u + w) (b.drop (p + l + u + w)) with
          | error e => rfl
          | ok z2 =>
            obtain ⟨m2, w2⟩ := z2
            dsimp only
            rw [mkRow_snoc]
            congr 1
            omega
theorem begin_leaf {level p : Nat} {b : Bytes} {v : Value} {n : Nat} (h : beginAt level p b = .ok (.leaf v, n)) : n = v.enc.length := by
  have e : vAt level p b = .ok (v, n) := by rw [vAt_begin, h]
  exact (val_enc e).2.2.1
theorem begin_row {level p : Nat} {b : Bytes} {named : Bool} {k n : Nat} (h : beginAt level p b = .ok (.row named k, n)) : n = 1 + (vary k).length := by
  cases b with
  | nil => cases h
  | cons c r =>
    rw [beginAt] at h
    split at h
    · cases h
    split at h
    · cases h
    split at h
    · split at h
      · cases h
      rename_i m l hv
      injection h with h
      obtain ⟨h1, rfl⟩ := Prod.mk.inj h
      injection h1 with h1 h2
      subst h2
      rw [← (vary_ok hv).2.2.1]
    · split at h
      · cases h
      · injection h with h
        obtain ⟨h1, _⟩ := Prod.mk.inj h
        cases h1
theorem first_len {named : Bool} {prev : Option Bytes} {p : Nat} {b m : Bytes} {l : Nat} (h : firstAt named prev p b = .ok (m, l)) : l = (nameB named m).length := by
  obtain ⟨h1, h2⟩ := firstAt_ok h
  unfold nameB
  rw [← h2, List.length_take]
  omega
theorem rowVal_enc (named : Bool) (m : Row) : (rowVal named m).enc.length = 1 + (vary m.length).length + (m.enc named).length := by
  cases named with
  | true =>
    show (Value.rec_ m).enc.length = _
    rw [Value.enc]
    simp only [List.length_cons, List.length_append]
    omega
  | false =>
    show (Value.list m).enc.length = _
    rw [Value.enc]
    simp only [List.length_cons, List.length_append]
    omega
theorem rowVal_deep (named : Bool) (m : Row) : (rowVal named m).deep = m.deep + 1 := by
  cases named <;> rfl
end Rd
end
section
set_option Elab.async false
set_option linter.all false
set_option maxRecDepth 100000
set_option maxHeartbeats 2000000
namespace Hs
open PySem PySem.Spec PyProof.Rows L2
/-! ### values as they lie in the heap -/
/-- names as they are spelled; a list has none -/
def nmV (named : Bool) (l : List Sw.Bytes) : List V := if named = true then l.map fun n => V.str (spell n) else []
def rfV (v : Sw.Value) (p : Nat) (nl ml ll : Addr) : RF := ⟨v.kind, p, spell (Rd.textB v), Rd.isBelow v, nl, ml, ll, 0, v.deep⟩
def isRec : Sw.Value → Bool
  | .rec_ _ => true
  | _ => false
def rowV : Sw.Value → Sw.Row
  | .list m => m
  | .rec_ m => m
  | _ => .nil
/-- where a list's or record's members begin -/
def inner (p n : Nat) : Nat := p + 1 + (Sw.vary n).length
structure RawB (K : PySem.W.Frag) (H : Hp) (M : List Addr) (v : Sw.Value) (x : Addr) (p : Nat) (nl ml : Addr) (xs : List Addr) : Prop where
  obj : ∃ dx ll, H x = some (.ins (CRaw K) dx (rfV v p nl ml ll).fs)
  names : H nl = some (.lst (nmV (isRec v) (rowV v).names))
  members : H ml = some (.lst (xs.map V.ref))
  mx : x ∉ M
  mn : nl ∉ M
  mm : ml ∉ M
mutual
/-- the value v, whose bytes begin at p, is at x, and none of its objects is among M -/
def RawT (K : PySem.W.Frag) (H : Hp) (M : List Addr) : Sw.Value → Addr → Nat → Prop
  | .list m, x, p => ∃ nl ml xs, RawB K H M (.list m) x p nl ml xs ∧ RowT K H M false m xs (inner p m.length)
  | .rec_ m, x, p => ∃ nl ml xs, RawB K H M (.rec_ m) x p nl ml xs ∧ RowT K H M true m xs (inner p m.length)
  | .no, x, p => ∃ nl ml, RawB K H M .no x p nl ml []
  | .yes, x, p => ∃ nl ml, RawB K H M .yes x p nl ml []
  | .num z, x, p => ∃ nl ml, RawB K H M (.num z) x p nl ml []
  | .bytes b, x, p => ∃ nl ml, RawB K H M (.bytes b) x p nl ml []
  | .text t, x, p => ∃ nl ml, RawB K H M (.text t) x p nl ml []
  | .moment z, x, p => ∃ nl ml, RawB K H M (.moment z) x p nl ml []
  | .id b, x, p => ∃ nl ml, RawB K H M (.id b) x p nl ml []
def RowT (K : PySem.W.Frag) (H : Hp) (M : List Addr) (named : Bool) : Sw.Row → List Addr → Nat → Prop
  | .nil, [], _ => True
  | .cons n v r, x :: xs, q => RawT K H M v x (q + (Rd.nameB named n).length) ∧ RowT K H M named r xs (q + (Rd.nameB named n).length + v.enc.length)
  | _, _, _ => False
end
/-- what isn't M's stays, and isn't M2's -/
def Keeps (M M2 : List Addr) (H H' : Hp) : Prop := ∀ a o, H a = some o → a ∉ M → H' a = some o ∧ a ∉ M2
section
variable {K : PySem.W.Frag} {H H' : Hp} {M M2 : List Addr}
theorem RawB.to {v : Sw.Value} {x nl ml : Addr} {p : Nat} {xs : List Addr} (B : RawB K H M v x p nl ml xs) (k : Keeps M M2 H H') : RawB K H' M2 v x p nl ml xs := by
  obtain ⟨⟨dx, ll, q1⟩, q2, q3, q4, q5, q6⟩ := B
  exact ⟨⟨dx, ll, (k _ _ q1 q4).1⟩, (k _ _ q2 q5).1, (k _ _ q3 q6).1, (k _ _ q1 q4).2, (k _ _ q2 q5).2, (k _ _ q3 q6).2⟩
mutual
theorem RawT.to (k : Keeps M M2 H H') : ∀ (v : Sw.Value) {x : Addr} {p : Nat}, RawT K H M v x p → RawT K H' M2 v x p
  | .list m, x, p, h => by
    obtain ⟨nl, ml, xs, B, R⟩ := h
    exact ⟨nl, ml, xs, B.to k, RowT.to k m R⟩
  | .rec_ m, x, p, h => by
    obtain ⟨nl, ml, xs, B, R⟩ := h
    exact ⟨nl, ml, xs, B.to k, RowT.to k m R⟩
  | .no, _, _, h => by obtain ⟨nl, ml, B⟩ := h; exact ⟨nl, ml, B.to k⟩
  | .yes, _, _, h => by obtain ⟨nl, ml, B⟩ := h; exact ⟨nl, ml, B.to k⟩
  | .num z, _, _, h => by obtain ⟨nl, ml, B⟩ := h; exact ⟨nl, ml, B.to k⟩
  | .bytes b, _, _, h => by obtain ⟨nl, ml, B⟩ := h; exact ⟨nl, ml, B.to k⟩
  | .text t, _, _, h => by obtain ⟨nl, ml, B⟩ := h; exact ⟨nl, ml, B.to k⟩
  | .moment z, _, _, h => by obtain ⟨nl, ml, B⟩ := h; exact ⟨nl, ml, B.to k⟩
  | .id b, _, _, h => by obtain ⟨nl, ml, B⟩ := h; exact ⟨nl, ml, B.to k⟩
theorem RowT.to (k : Keeps M M2 H H') : ∀ (m : Sw.Row) {named : Bool} {xs : List Addr} {q : Nat}, RowT K H M named m xs q → RowT K H' M2 named m xs q
  | .nil, _, [], _, _ => True.intro
  | .nil, _, _ :: _, _, h => h
  | .cons n v r, _, [], _, h => h
  | .cons n v r, named, x :: xs, q, h => ⟨RawT.to k v h.1, RowT.to k r h.2⟩
end
theorem rawT_row (named : Bool) (m : Sw.Row) {x : Addr} {p : Nat} : RawT K H M (Rd.rowVal named m) x p = ∃ nl ml xs, RawB K H M (Rd.rowVal named m) x p nl ml xs ∧ RowT K H M named m xs (inner p m.length) := by
  cases named <;> rfl
theorem rawT_leaf : ∀ {v : Sw.Value} {x : Addr} {p : Nat} {nl ml : Addr}, v.kind ≠ 5 → v.kind ≠ 6 → RawB K H M v x p nl ml [] → RawT K H M v x p
  | .list m, _, _, _, _, h, _, _ => absurd rfl h
  | .rec_ m, _, _, _, _, _, h, _ => absurd rfl h
  | .no, _, _, nl, ml, _, _, B => ⟨nl, ml, B⟩
  | .yes, _, _, nl, ml, _, _, B => ⟨nl, ml, B⟩
  | .num _, _, _, nl, ml, _, _, B => ⟨nl, ml, B⟩
  | .bytes _, _, _, nl, ml, _, _, B => ⟨nl, ml, B⟩
  | .text _, _, _, nl, ml, _, _, B => ⟨nl, ml, B⟩
  | .moment _, _, _, nl, ml, _, _, B => ⟨nl, ml, B⟩
  | .id _, _, _, nl, ml, _, _, B => ⟨nl, ml, B⟩
theorem rowT_snoc (named : Bool) {n : Sw.Bytes} {v : Sw.Value} {x : Addr} : ∀ (l : Rd.RL) {xs : List Addr} {q : Nat}, RowT K H M named (Rd.toRow l) xs q → RawT K H M v x (q + ((Rd.toRow l).enc named).length + (Rd.nameB named n).length) → RowT K H M named (Rd.toRow (l ++ [(n, v)])) (xs ++ [x]) q
  | [], [], q, _, h2 => by
    refine ⟨?_, True.intro⟩
    have e : ((Rd.toRow []).enc named).length = 0 := by show (Sw.Row.enc .nil named).length = 0; rw [Sw.Row.enc]; rfl
    rw [e] at h2
    exact h2
  | [], _ :: _, _, h1, _ => h1.elim
  | (k, u) :: l, [], _, h1, _ => h1.elim
  | (k, u) :: l, y :: xs, q, h1, h2 => by
    refine ⟨h1.1, rowT_snoc named l h1.2 ?_⟩
    have e : ((Rd.toRow ((k, u) :: l)).enc named).length = (Rd.nameB named k).length + u.enc.length + ((Rd.toRow l).enc named).length := by
      show (Sw.Row.enc (.cons k u (Rd.toRow l)) named).length = _
      rw [Sw.Row.enc]
      simp only [List.length_append]
      rw [← Nat.add_assoc]
      rfl
    rw [e] at h2
    have e2 : q + ((Rd.nameB named k).length + u.enc.length + ((Rd.toRow l).enc named).length) = q + (Rd.nameB named k).length + u.enc.length + ((Rd.toRow l).enc named).length := by omega
    rw [e2] at h2
    exact h2
theorem rowT_len : ∀ {named : Bool} {m : Sw.Row} {xs : List Addr} {q : Nat}, RowT K H M named m xs q → xs.length = m.length
  | _, .nil, [], _, _ => rfl
  | _, .nil, _ :: _, _, h => h.elim
  | _, .cons _ _ _, [], _, h => h.elim
  | named, .cons n v r, x :: xs, q, h => congrArg (· + 1) (rowT_len (m := r) (xs := xs) h.2)
end
end Hs
end
section
set_option Elab.async false
set_option linter.all false
set_option maxRecDepth 100000
set_option maxHeartbeats 2000000
namespace Hs
open PySem PySem.Spec PyProof.Rows L2
/-! ### the reader's stack -/
structure FrO where
  x : Addr
  nl : Addr
  ml : Addr
  ll : Addr
  xs : List Addr
  place : Nat
  fr : Rd.Fr
def rowRF (named : Bool) (place : Nat) (nl ml ll : Addr) (left deep : Nat) : RF := ⟨if named = true then 6 else 5, place, "", false, nl, ml, ll, left, deep⟩
/-- the places that are written to -/
def flatF : List FrO → List Addr
  | [] => []
  | f :: fs => f.x :: f.nl :: f.ml :: flatF fs
def lb (named : Bool) (n : Sw.Bytes) : Sw.Bytes := if named = true then n else []
structure PendT (K : PySem.W.Frag) (H : Hp) (M : List Addr) (f : FrO) (c : Addr) (cp : Nat) : Prop where
  obj : ∃ dx, H f.x = some (.ins (CRaw K) dx (rowRF f.fr.named f.place f.nl f.ml f.ll f.fr.left ((Rd.toRow f.fr.pre).deep + 1)).fs)
  names : H f.nl = some (.lst (nmV f.fr.named ((Rd.toRow f.fr.pre).names ++ [f.fr.pend])))
  members : H f.ml = some (.lst ((f.xs ++ [c]).map V.ref))
  last : H f.ll = some (.lst (byV (lb f.fr.named f.fr.pend)))
  lm : f.ll ∉ M
  row : RowT K H M f.fr.named (Rd.toRow f.fr.pre) f.xs (inner f.place (f.fr.pre.length + 1 + f.fr.left))
  at_ : cp = inner f.place (f.fr.pre.length + 1 + f.fr.left) + ((Rd.toRow f.fr.pre).enc f.fr.named).length + (Rd.nameB f.fr.named f.fr.pend).length
def PendS (K : PySem.W.Frag) (H : Hp) (M : List Addr) : List FrO → Addr → Nat → Prop
  | [], _, cp => cp = 0
  | f :: fs, c, cp => PendT K H M f c cp ∧ PendS K H M fs f.x f.place
def botF : List FrO → Addr → Addr
  | [], x => x
  | f :: fs, _ => botF fs f.x
structure TopO where
  x : Addr
  nl : Addr
  ml : Addr
  ll : Addr
  xs : List Addr
  place : Nat
def TopT (K : PySem.W.Frag) (H : Hp) (M : List Addr) (o : TopO) (p : Nat) : Rd.Tp → Prop
  | .leaf v => v.kind ≠ 5 ∧ v.kind ≠ 6 ∧ o.xs = [] ∧ RawB K H [] v o.x o.place o.nl o.ml [] ∧ p = o.place + v.enc.length
  | .row named pre left prev => (∃ dx, H o.x = some (.ins (CRaw K) dx (rowRF named o.place o.nl o.ml o.ll left ((Rd.toRow pre).deep + 1)).fs)) ∧
    H o.nl = some (.lst (nmV named (Rd.toRow pre).names)) ∧ H o.ml = some (.lst (o.xs.map V.ref)) ∧ H o.ll = some (.lst (byV (lb named (prev.getD [])))) ∧ o.ll ∉ M ∧
    RowT K H M named (Rd.toRow pre) o.xs (inner o.place (pre.length + left)) ∧ p = inner o.place (pre.length + left) + ((Rd.toRow pre).enc named).length
def mutM (r sg op cl : Addr) (o : TopO) (fs : List FrO) : List Addr := [r, sg, op, cl, o.x, o.nl, o.ml] ++ flatF fs
structure Run (K : PySem.W.Frag) (H : Hp) (b : Sw.Bytes) (r cl sg op whole : Addr) (fs : List FrO) (t : Rd.Tp) (o : TopO) (p : Nat) : Prop where
  rd : Rdr K H r cl sg b p
  res : Rd.vAt 1 0 b = Rd.res b (fs.map FrO.fr) t p
  opn : H op = some (.lst (((fs.map FrO.x).reverse ++ [o.x]).map V.ref))
  top : TopT K H (mutM r sg op cl o fs) o p t
  pend : PendS K H (mutM r sg op cl o fs) fs o.x o.place
  nd : (mutM r sg op cl o fs).Nodup
  alive : ∀ a ∈ mutM r sg op cl o fs, H a ≠ none
  len : fs.length < p
  bot : whole = botF fs o.x
section
variable {K : PySem.W.Frag} {H H' : Hp} {M M2 : List Addr}
theorem PendT.to {f : FrO} {c : Addr} {cp : Nat} (T : PendT K H M f c cp) (k : Keeps M M2 H H') (own : ∀ a ∈ [f.x, f.nl, f.ml], ∀ o, H a = some o → H' a = some o) : PendT K H' M2 f c cp := by
  obtain ⟨⟨dx, q1⟩, q2, q3, q4, q5, q6, q7⟩ := T
  exact ⟨⟨dx, own _ (by simp) _ q1⟩, own _ (by simp) _ q2, own _ (by simp) _ q3, (k _ _ q4 q5).1, (k _ _ q4 q5).2, q6.to k, q7⟩
theorem PendS.to (k : Keeps M M2 H H') : ∀ {fs : List FrO} {c : Addr} {cp : Nat}, PendS K H M fs c cp → (∀ a ∈ flatF fs, ∀ o, H a = some o → H' a = some o) → PendS K H' M2 fs c cp
  | [], _, _, h, _ => h
  | f :: fs, c, cp, h, own => by
    refine ⟨h.1.to k fun a ha => own a (by simp only [flatF, List.mem_cons, List.not_mem_nil, or_false] at ha ⊢; rcases ha with h | h | h <;> simp [h]), PendS.to k h.2 fun a ha => own a (by simp [flatF, ha])⟩
end
end Hs
end
section
set_option Elab.async false
set_option linter.all false
set_option maxRecDepth 100000
set_option maxHeartbeats 2000000
namespace Hs
open PySem PySem.Spec PyProof.Rows L2
structure Dis (r sg op cl x nl ml : Addr) (F : List Addr) : Prop where
  rsg : r ≠ sg
  rop : r ≠ op
  rcl : r ≠ cl
  rx : r ≠ x
  rn : r ≠ nl
  rm : r ≠ ml
  sgop : sg ≠ op
  sgcl : sg ≠ cl
  sgx : sg ≠ x
  sgn : sg ≠ nl
  sgm : sg ≠ ml
  opcl : op ≠ cl
  opx : op ≠ x
  opn : op ≠ nl
  opm : op ≠ ml
  clx : cl ≠ x
  cln : cl ≠ nl
  clm : cl ≠ ml
  xn : x ≠ nl
  xm : x ≠ ml
  nm : nl ≠ ml
  nf : F.Nodup
  far : ∀ a ∈ F, a ≠ r ∧ a ≠ sg ∧ a ≠ op ∧ a ≠ cl ∧ a ≠ x ∧ a ≠ nl ∧ a ≠ ml
theorem dis_iff {r sg op cl x nl ml : Addr} {F : List Addr} : ([r, sg, op, cl, x, nl, ml] ++ F).Nodup ↔ Dis r sg op cl x nl ml F := by
  constructor
  · intro h
    obtain ⟨h1, h2, h3⟩ := List.nodup_append.mp h
    simp only [List.nodup_cons, List.mem_cons, List.not_mem_nil, not_or, or_false, not_false_eq_true, and_true, List.nodup_nil] at h1
    obtain ⟨⟨a1, a2, a3, a4, a5, a6⟩, ⟨b1, b2, b3, b4, b5⟩, ⟨c1, c2, c3, c4⟩, ⟨d1, d2, d3⟩, ⟨e1, e2⟩, f1⟩ := h1
    refine ⟨a1, a2, a3, a4, a5, a6, b1, b2, b3, b4, b5, c1, c2, c3, c4, d1, d2, d3, e1, e2, f1, h2, fun a ha => ?_⟩
    have g := fun z hz => Ne.symm (h3 z hz a ha)
    exact ⟨g r (by simp), g sg (by simp), g op (by simp), g cl (by simp), g x (by simp), g nl (by simp), g ml (by simp)⟩
  · intro D
    refine List.nodup_append.mpr ⟨?_, D.nf, fun z hz a ha e => ?_⟩
    · simp only [List.nodup_cons, List.mem_cons, List.not_mem_nil, not_or, or_false, not_false_eq_true, and_true, List.nodup_nil]
      exact ⟨⟨D.rsg, D.rop, D.rcl, D.rx, D.rn, D.rm⟩, ⟨D.sgop, D.sgcl, D.sgx, D.sgn, D.sgm⟩, ⟨D.opcl, D.opx, D.opn, D.opm⟩, ⟨D.clx, D.cln, D.clm⟩, ⟨D.xn, D.xm⟩, D.nm⟩
    · subst e
      obtain ⟨g1, g2, g3, g4, g5, g6, g7⟩ := D.far z ha
      simp only [List.mem_cons, List.not_mem_nil, or_false] at hz
      rcases hz with h | h | h | h | h | h | h
      · exact g1 h
      · exact g2 h
      · exact g3 h
      · exact g4 h
      · exact g5 h
      · exact g6 h
      · exact g7 h
theorem Rdr.keep {K : PySem.W.Frag} {H H' : Hp} {r cl sg : Addr} {b : Sw.Bytes} {p : Nat} {S : List Addr} (R : Rdr K H r cl sg b p) (s : SameX S H H') (h1 : r ∉ S) (h2 : cl ∉ S) (h3 : sg ∉ S) : Rdr K H' r cl sg b p := by
  obtain ⟨⟨dx, q1⟩, q2, q3, q4, q5, q6⟩ := R
  exact ⟨⟨dx, s _ _ h1 q1⟩, s.seq h2 q2, s _ _ h3 q3, q4, q5, q6⟩
def doneV : Rd.Tp → Option Sw.Value
  | .leaf v => some v
  | .row named pre 0 _ => some (Rd.rowVal named (Rd.toRow pre))
  | _ => none
def mutM0 (r sg op cl : Addr) (fs : List FrO) : List Addr := [r, sg, op, cl] ++ flatF fs
section
variable {K : PySem.W.Frag} {H H' : Hp} {M M2 : List Addr} {b : Sw.Bytes} {r cl sg op whole : Addr} {fs : List FrO} {t : Rd.Tp} {o : TopO} {p : Nat}
theorem m0_sub {a : Addr} (h : a ∈ mutM0 r sg op cl fs) : a ∈ mutM r sg op cl o fs := by
  simp only [mutM0, mutM, List.mem_append, List.mem_cons, List.not_mem_nil, or_false] at h ⊢
  rcases h with (h | h | h | h) | h <;> simp [h]
theorem Run.dis (R : Run K H b r cl sg op whole fs t o p) : Dis r sg op cl o.x o.nl o.ml (flatF fs) := dis_iff.mp R.nd
theorem Dis.out {x nl ml : Addr} {F : List Addr} (D : Dis r sg op cl x nl ml F) {a : Addr} (h : a = x ∨ a = nl ∨ a = ml) : a ∉ [r, sg, op, cl] ++ F := by
  intro q
  have hx := fun q => (D.far a q)
  simp only [List.mem_append, List.mem_cons, List.not_mem_nil, or_false] at q
  rcases q with (q | q | q | q) | q
  · rcases h with h | h | h
    · exact D.rx (q.symm.trans h)
    · exact D.rn (q.symm.trans h)
    · exact D.rm (q.symm.trans h)
  · rcases h with h | h | h
    · exact D.sgx (q.symm.trans h)
    · exact D.sgn (q.symm.trans h)
    · exact D.sgm (q.symm.trans h)
  · rcases h with h | h | h
    · exact D.opx (q.symm.trans h)
    · exact D.opn (q.symm.trans h)
    · exact D.opm (q.symm.trans h)
  · rcases h with h | h | h
    · exact D.clx (q.symm.trans h)
    · exact D.cln (q.symm.trans h)
    · exact D.clm (q.symm.trans h)
  · obtain ⟨_, _, _, _, g5, g6, g7⟩ := hx q
    rcases h with h | h | h
    · exact g5 h
    · exact g6 h
    · exact g7 h
theorem rfV_row (named : Bool) (m : Sw.Row) (p : Nat) (nl ml ll : Addr) : rowRF named p nl ml ll 0 (m.deep + 1) = rfV (Rd.rowVal named m) p nl ml ll := by
  cases named
  · show _ = (⟨5, p, spell [], false, nl, ml, ll, 0, m.deep + 1⟩ : RF)
    rw [spell_nil]; rfl
  · show _ = (⟨6, p, spell [], false, nl, ml, ll, 0, m.deep + 1⟩ : RF)
    rw [spell_nil]; rfl
/-- what is on top is a whole value -/
theorem Run.full (R : Run K H b r cl sg op whole fs t o p) {v : Sw.Value} (hv : doneV t = some v) :
    Rd.vAt 1 0 b = Rd.up b (fs.map FrO.fr) v p ∧ RawT K H (mutM0 r sg op cl fs) v o.x o.place ∧ p = o.place + v.enc.length ∧ ∃ dx ll, H o.x = some (.ins (CRaw K) dx (rfV v o.place o.nl o.ml ll).fs) := by
  have D := R.dis
  have T := R.top
  have res := R.res
  cases t with
  | leaf u =>
    injection hv with hv
    subst hv
    obtain ⟨k5, k6, _, B, hp⟩ := T
    obtain ⟨⟨dx, ll, q1⟩, q2, q3, _, _, _⟩ := id B
    exact ⟨res, rawT_leaf k5 k6 ⟨⟨dx, ll, q1⟩, q2, q3, D.out (.inl rfl), D.out (.inr (.inl rfl)), D.out (.inr (.inr rfl))⟩, hp, dx, ll, q1⟩
  | row named pre left prev =>
    cases left with
    | succ n => cases hv
    | zero =>
      injection hv with hv
      subst hv
      obtain ⟨⟨dx, q1⟩, q2, q3, _, _, q6, q7⟩ := T
      rw [rfV_row] at q1
      rw [Nat.add_zero] at q6 q7
      refine ⟨res.trans (Rd.res_zero ..), ?_, ?_, dx, o.ll, q1⟩
      · rw [rawT_row]
        refine ⟨o.nl, o.ml, o.xs, ⟨⟨dx, o.ll, q1⟩, ?_, q3, D.out (.inl rfl), D.out (.inr (.inl rfl)), D.out (.inr (.inr rfl))⟩, ?_⟩
        · cases named
          · exact q2
          · exact q2
        · rw [Rd.toRow_len]
          exact q6.to fun a w ha hn => ⟨ha, fun q => hn (m0_sub q)⟩
      · rw [Rd.rowVal_enc, Rd.toRow_len, q7]
        unfold inner
        omega
theorem toRow_snoc_len {l : Rd.RL} {x : Sw.Bytes × Sw.Value} : (l ++ [x]).length = l.length + 1 := by simp
theorem Run.pop {f : FrO} (R : Run K H b r cl sg op whole (f :: fs) t o p) {v : Sw.Value} (hv : doneV t = some v) {dx : Addr} :
    Run K (upd (upd H op (.lst ((((f :: fs).map FrO.x).reverse).map V.ref))) f.x (.ins (CRaw K) dx (rowRF f.fr.named f.place f.nl f.ml f.ll f.fr.left (max (Rd.toRow f.fr.pre).deep v.deep + 1)).fs)) b r cl sg op whole fs
      (.row f.fr.named (f.fr.pre ++ [(f.fr.pend, v)]) f.fr.left (some f.fr.pend)) ⟨f.x, f.nl, f.ml, f.ll, f.xs ++ [o.x], f.place⟩ p := by
  obtain ⟨w1, w2, w3, _⟩ := R.full hv
  have D := R.dis
  have nd2 : (mutM r sg op cl ⟨f.x, f.nl, f.ml, f.ll, f.xs ++ [o.x], f.place⟩ fs).Nodup := by
    refine List.Nodup.sublist ?_ R.nd
    exact .cons₂ _ (.cons₂ _ (.cons₂ _ (.cons₂ _ (.cons _ (.cons _ (.cons _ (List.Sublist.refl _)))))))
  have D2 : Dis r sg op cl f.x f.nl f.ml (flatF fs) := dis_iff.mp nd2
  have sub : ∀ a ∈ mutM r sg op cl ⟨f.x, f.nl, f.ml, f.ll, f.xs ++ [o.x], f.place⟩ fs, a ∈ mutM r sg op cl o (f :: fs) := fun a ha => by
    simp only [mutM, flatF, List.mem_append, List.mem_cons, List.not_mem_nil, or_false] at ha ⊢
    rcases ha with (h | h | h | h | h | h | h) | h <;> simp [h]
  obtain ⟨P1, P2⟩ := R.pend
  have s : SameX [op, f.x] H (upd (upd H op (.lst ((((f :: fs).map FrO.x).reverse).map V.ref))) f.x (.ins (CRaw K) dx (rowRF f.fr.named f.place f.nl f.ml f.ll f.fr.left (max (Rd.toRow f.fr.pre).deep v.deep + 1)).fs)) := (samex_upd (by simp)).trans (samex_upd (by simp))
  have no : ∀ {a : Addr}, a ≠ op → a ≠ f.x → a ∉ [op, f.x] := fun h1 h2 => by simp [h1, h2]
  have k : Keeps (mutM r sg op cl o (f :: fs)) (mutM r sg op cl ⟨f.x, f.nl, f.ml, f.ll, f.xs ++ [o.x], f.place⟩ fs) H (upd (upd H op (.lst ((((f :: fs).map FrO.x).reverse).map V.ref))) f.x (.ins (CRaw K) dx (rowRF f.fr.named f.place f.nl f.ml f.ll f.fr.left (max (Rd.toRow f.fr.pre).deep v.deep + 1)).fs)) := fun a w ha hn =>
    ⟨s a w (no (fun e => hn (by rw [e]; simp [mutM])) (fun e => hn (by rw [e]; simp [mutM, flatF]))) ha, fun q => hn (sub a q)⟩
  have k0 : Keeps (mutM0 r sg op cl (f :: fs)) (mutM r sg op cl ⟨f.x, f.nl, f.ml, f.ll, f.xs ++ [o.x], f.place⟩ fs) H (upd (upd H op (.lst ((((f :: fs).map FrO.x).reverse).map V.ref))) f.x (.ins (CRaw K) dx (rowRF f.fr.named f.place f.nl f.ml f.ll f.fr.left (max (Rd.toRow f.fr.pre).deep v.deep + 1)).fs)) := fun a w ha hn =>
    ⟨s a w (no (fun e => hn (by rw [e]; simp [mutM0])) (fun e => hn (by rw [e]; simp [mutM0, flatF]))) ha, fun q => hn (by
      simp only [mutM, mutM0, flatF, List.mem_append, List.mem_cons, List.not_mem_nil, or_false] at q ⊢
      rcases q with (h | h | h | h | h | h | h) | h <;> simp [h])⟩
  refine ⟨R.rd.keep s (no D.rop D2.rx) (no (Ne.symm D.opcl) D2.clx) (no D.sgop D2.sgx), w1, ?_, ?_, ?_, nd2, ?_, ?_, R.bot⟩
  · rw [upd_ne D2.opx, upd_same]
    simp
  · refine ⟨⟨dx, ?_⟩, ?_, ?_, ?_, ?_, ?_, ?_⟩
    · rw [upd_same, Rd.toRow_deep]
    · rw [Rd.toRow_names]
      exact s _ _ (no (Ne.symm D2.opn) (Ne.symm D2.xn)) P1.names
    · exact s _ _ (no (Ne.symm D2.opm) (Ne.symm D2.xm)) P1.members
    · exact (k _ _ P1.last P1.lm).1
    · exact (k _ _ P1.last P1.lm).2
    · have q := P1.row.to k
      have e : f.fr.pre.length + 1 + f.fr.left = (f.fr.pre ++ [(f.fr.pend, v)]).length + f.fr.left := by rw [toRow_snoc_len]
      rw [e] at q
      refine rowT_snoc _ _ q ?_
      have z := w2.to k0
      have hc := P1.at_
      rw [e] at hc
      rw [← hc]
      exact z
    · have hc := P1.at_
      have e : f.fr.pre.length + 1 + f.fr.left = (f.fr.pre ++ [(f.fr.pend, v)]).length + f.fr.left := by rw [toRow_snoc_len]
      rw [e] at hc
      rw [Rd.toRow_enc]
      simp only [List.length_append]
      rw [List.length_append] at hc
      omega
  · refine P2.to k fun a ha w hw => ?_
    have g := D2.far a ha
    exact s a w (no g.2.2.1 g.2.2.2.2.1) hw
  · intro a ha
    by_cases e : a = f.x
    · rw [e, upd_same]; simp
    rw [upd_ne e]
    by_cases e2 : a = op
    · rw [e2, upd_same]; simp
    rw [upd_ne e2]
    exact R.alive a (sub a ha)
  · have := R.len
    simp only [List.length_cons] at this
    show fs.length < p
    omega
end
end Hs
end
section
set_option Elab.async false
set_option linter.all false
set_option maxRecDepth 100000
set_option maxHeartbeats 2000000
namespace Hs
open PySem PySem.Spec PyProof.Rows L2
theorem beginLeafKind {level p : Nat} {b : Sw.Bytes} {v : Sw.Value} {n : Nat} (h : Rd.beginAt level p b = .ok (.leaf v, n)) : v.kind ≠ 5 ∧ v.kind ≠ 6 := by
  cases b with
  | nil => cases h
  | cons c r =>
    rw [Rd.beginAt] at h
    split at h
    · cases h
    rename_i g1
    split at h
    · cases h
    split at h
    · split at h
      · cases h
      · injection h with h
        obtain ⟨h1, _⟩ := Prod.mk.inj h
        cases h1
    · rename_i g2
      split at h
      · cases h
      rename_i u m hu
      injection h with h
      obtain ⟨h1, rfl⟩ := Prod.mk.inj h
      injection h1 with h1
      subst h1
      have := Rd.leaf_kind (by omega) g2 hu
      omega
section
variable {K : PySem.W.Frag} {H H2 H3 : Hp} {b : Sw.Bytes} {r cl sg op whole : Addr} {fs : List FrO} {o : TopO} {p : Nat}
/-- the top of a value that has just been begun -/
theorem top_new {M : List Addr} {hd : Rd.Hd} {level q u : Nat} {H0 H' H5 : Hp} {y ynl yml yll : Addr} (hb : Rd.beginAt level q (b.drop q) = .ok (hd, u)) (N : NewRaw K H0 H' y (rfOf hd q ynl yml yll))
    (k1 : ∀ a w, H' a = some w → (a = y ∨ a = ynl ∨ a = yml ∨ a = yll) → H5 a = some w) (hl : yll ∉ M) : TopT K H5 M ⟨y, ynl, yml, yll, [], q⟩ (q + u) (Rd.tpOf hd) := by
  obtain ⟨⟨dx, n1⟩, n2, n3, n4, _⟩ := N
  cases hd with
  | leaf v =>
    obtain ⟨g5, g6⟩ := beginLeafKind hb
    have hu := Rd.begin_leaf hb
    refine ⟨g5, g6, rfl, ⟨⟨dx, yll, ?_⟩, ?_, ?_, by simp, by simp, by simp⟩, by rw [hu]⟩
    · refine k1 _ _ ?_ (.inl rfl)
      rw [n1]
      have : v.deep = 1 := by cases v with
        | list m => exact absurd rfl g5
        | rec_ m => exact absurd rfl g6
        | _ => rfl
      unfold rfOf rfV
      dsimp only
      rw [this]
    · have : nmV (isRec v) (rowV v).names = [] := by cases v with
        | list m => exact absurd rfl g5
        | rec_ m => exact absurd rfl g6
        | _ => rfl
      rw [this]
      exact k1 _ _ n2 (.inr (.inl rfl))
    · exact k1 _ _ n3 (.inr (.inr (.inl rfl)))
  | row named n =>
    have hu := Rd.begin_row hb
    refine ⟨⟨dx, k1 _ _ n1 (.inl rfl)⟩, ?_, k1 _ _ n3 (.inr (.inr (.inl rfl))), (by cases named <;> exact k1 _ _ n4 (.inr (.inr (.inr rfl)))), hl, True.intro, ?_⟩
    · have : nmV named (Rd.toRow []).names = [] := by cases named <;> rfl
      rw [this]
      exact k1 _ _ n2 (.inr (.inl rfl))
    · have : ((Rd.toRow []).enc named).length = 0 := by show (Sw.Row.enc .nil named).length = 0; rw [Sw.Row.enc]; rfl
      rw [this, hu]
      unfold inner
      simp
      omega
theorem Run.down {named : Bool} {pre : Rd.RL} {n : Nat} {prev : Option Sw.Bytes} (R : Run K H b r cl sg op whole fs (.row named pre (n + 1) prev) o p) {name : Sw.Bytes} {l : Nat} {hd : Rd.Hd} {u : Nat}
    (hf : Rd.firstAt named prev p (b.drop p) = .ok (name, l)) (hb : Rd.beginAt (fs.length + 2) (p + l) (b.drop (p + l)) = .ok (hd, u)) {y ynl yml yll ll' dx : Addr}
    (s2 : SameX [r, o.x, o.nl] H H2) (obj2 : H2 o.x = some (.ins (CRaw K) dx (rowRF named o.place o.nl o.ml ll' n ((Rd.toRow pre).deep + 1)).fs))
    (nm2 : H2 o.nl = some (.lst (nmV named ((Rd.toRow pre).names ++ [name])))) (l2 : H2 ll' = some (.lst (byV (lb named name)))) (lf : ll' = o.ll ∨ H ll' = none)
    (r2 : ∃ w, H2 r = some w) (s3 : SameX [r] H2 H3) (R3 : Rdr K H3 r cl sg b (p + l + u)) (N : NewRaw K H2 H3 y (rfOf hd (p + l) ynl yml yll)) :
    Run K (upd (upd H3 o.ml (.lst (o.xs.map V.ref ++ [V.ref y]))) op (.lst ((((fs.map FrO.x).reverse ++ [o.x]).map V.ref) ++ [V.ref y]))) b r cl sg op whole
      (⟨o.x, o.nl, o.ml, ll', o.xs, o.place, ⟨named, pre, n, name⟩⟩ :: fs) (Rd.tpOf hd) ⟨y, ynl, yml, yll, [], p + l⟩ (p + l + u) := by
  have D := R.dis
  obtain ⟨⟨dx0, t1⟩, t2, t3, t4, t5, t6, t7⟩ := R.top
  obtain ⟨q1, q2, q3, q4, fy, fn, fm, fl, n1, n2, n3, n4, n5, n6⟩ := id N
  have eN : (rfOf hd (p + l) ynl yml yll).nl = ynl := by cases hd <;> rfl
  have eM : (rfOf hd (p + l) ynl yml yll).ml = yml := by cases hd <;> rfl
  have eL : (rfOf hd (p + l) ynl yml yll).ll = yll := by cases hd <;> rfl
  rw [eN] at fn n1 n4 n5 q2
  rw [eM] at fm n2 n4 n6 q3
  rw [eL] at fl n3 n5 n6 q4
  -- what is new was not there before
  have al : ∀ {a : Addr}, H a ≠ none → H2 a ≠ none := fun {a} ha e => by
    by_cases h1 : a = r
    · obtain ⟨w, hw⟩ := r2; rw [h1, hw] at e; cases e
    by_cases h2 : a = o.x
    · rw [h2, obj2] at e; cases e
    by_cases h3 : a = o.nl
    · rw [h3, nm2] at e; cases e
    cases hh : H a with
    | none => exact ha hh
    | some w => rw [s2 a w (by simp [h1, h2, h3]) hh] at e; cases e
  have mAl := R.alive
  have newM : ∀ {a z : Addr}, a ∈ mutM r sg op cl o fs → H2 z = none → a ≠ z := fun {a z} ha hz e => al (mAl a ha) (by rw [e]; exact hz)
  have inR : r ∈ mutM r sg op cl o fs := by simp [mutM]
  have inSg : sg ∈ mutM r sg op cl o fs := by simp [mutM]
  have inOp : op ∈ mutM r sg op cl o fs := by simp [mutM]
  have inCl : cl ∈ mutM r sg op cl o fs := by simp [mutM]
  have inX : o.x ∈ mutM r sg op cl o fs := by simp [mutM]
  have inN : o.nl ∈ mutM r sg op cl o fs := by simp [mutM]
  have inMl : o.ml ∈ mutM r sg op cl o fs := by simp [mutM]
  have inF : ∀ {a : Addr}, a ∈ flatF fs → a ∈ mutM r sg op cl o fs := fun h => by simp [mutM, h]
  have nd2 : (mutM r sg op cl ⟨y, ynl, yml, yll, [], p + l⟩ (⟨o.x, o.nl, o.ml, ll', o.xs, o.place, ⟨named, pre, n, name⟩⟩ :: fs)).Nodup := by
    refine dis_iff.mpr ⟨D.rsg, D.rop, D.rcl, newM inR fy, newM inR fn, newM inR fm, D.sgop, D.sgcl, newM inSg fy, newM inSg fn, newM inSg fm, D.opcl, newM inOp fy, newM inOp fn, newM inOp fm, newM inCl fy, newM inCl fn, newM inCl fm, Ne.symm n1, Ne.symm n2, n4, ?_, ?_⟩
    · show (o.x :: o.nl :: o.ml :: flatF fs).Nodup
      simp only [List.nodup_cons, List.mem_cons, not_or]
      exact ⟨⟨D.xn, D.xm, fun h => (D.far _ h).2.2.2.2.1 rfl⟩, ⟨D.nm, fun h => (D.far _ h).2.2.2.2.2.1 rfl⟩, fun h => (D.far _ h).2.2.2.2.2.2 rfl, D.nf⟩
    · intro a ha
      have hm : a ∈ mutM r sg op cl o fs := by
        simp only [flatF, List.mem_cons] at ha
        rcases ha with h | h | h | h
        · rw [h]; exact inX
        · rw [h]; exact inN
        · rw [h]; exact inMl
        · exact inF h
      refine ⟨?_, ?_, ?_, ?_, newM hm fy, newM hm fn, newM hm fm⟩
      all_goals
        simp only [flatF, List.mem_cons] at ha
        rcases ha with h | h | h | h
      · rw [h]; exact Ne.symm D.rx
      · rw [h]; exact Ne.symm D.rn
      · rw [h]; exact Ne.symm D.rm
      · exact (D.far _ h).1
      · rw [h]; exact Ne.symm D.sgx
      · rw [h]; exact Ne.symm D.sgn
      · rw [h]; exact Ne.symm D.sgm
      · exact (D.far _ h).2.1
      · rw [h]; exact Ne.symm D.opx
      · rw [h]; exact Ne.symm D.opn
      · rw [h]; exact Ne.symm D.opm
      · exact (D.far _ h).2.2.1
      · rw [h]; exact Ne.symm D.clx
      · rw [h]; exact Ne.symm D.cln
      · rw [h]; exact Ne.symm D.clm
      · exact (D.far _ h).2.2.2.1
  generalize hH5 : upd (upd H3 o.ml (.lst (o.xs.map V.ref ++ [V.ref y]))) op (.lst ((((fs.map FrO.x).reverse ++ [o.x]).map V.ref) ++ [V.ref y])) = H5
  have s5 : SameX [o.ml, op] H3 H5 := by
    rw [← hH5]
    exact (samex_upd (by simp)).trans (samex_upd (by simp))
  have sH : SameX [r, o.x, o.nl, o.ml, op] H H5 := (s2.mono (by simp)).trans ((s3.mono (by simp)).trans (s5.mono (by simp)))
  have no : ∀ {a : Addr}, a ≠ o.ml → a ≠ op → a ∉ [o.ml, op] := fun h1 h2 => by simp [h1, h2]
  have outM : ∀ {a : Addr}, a ∉ mutM r sg op cl o fs → a ∉ [r, o.x, o.nl, o.ml, op] := fun {a} h q => by
    apply h
    simp only [mutM, List.mem_append, List.mem_cons, List.not_mem_nil, or_false] at q ⊢
    rcases q with q | q | q | q | q <;> simp [q]
  have newM2 : ∀ {a : Addr}, a ∉ mutM r sg op cl o fs → H2 a ≠ none → a ∉ mutM r sg op cl ⟨y, ynl, yml, yll, [], p + l⟩ (⟨o.x, o.nl, o.ml, ll', o.xs, o.place, ⟨named, pre, n, name⟩⟩ :: fs) := fun {a} h h2 q => by
    apply h
    simp only [mutM, flatF, List.mem_append, List.mem_cons, List.not_mem_nil, or_false] at q ⊢
    rcases q with (q | q | q | q | q | q | q) | q | q | q | q
    · simp [q]
    · simp [q]
    · simp [q]
    · simp [q]
    · rw [q] at h2; exact absurd fy h2
    · rw [q] at h2; exact absurd fn h2
    · rw [q] at h2; exact absurd fm h2
    · simp [q]
    · simp [q]
    · simp [q]
    · simp [q]
  have k : Keeps (mutM r sg op cl o fs) (mutM r sg op cl ⟨y, ynl, yml, yll, [], p + l⟩ (⟨o.x, o.nl, o.ml, ll', o.xs, o.place, ⟨named, pre, n, name⟩⟩ :: fs)) H H5 := fun a w ha hn =>
    ⟨sH a w (outM hn) ha, newM2 hn (al (by rw [ha]; simp))⟩
  have llM : ll' ∉ mutM r sg op cl o fs := by
    rcases lf with h | h
    · rw [h]; exact t5
    · intro q; exact mAl _ q h
  have ll2 : H2 ll' ≠ none := by rw [l2]; simp
  have llr : ll' ≠ r := fun e => llM (by rw [e]; exact inR)
  have res5 : Rd.vAt 1 0 b = Rd.res b (⟨named, pre, n, name⟩ :: fs.map FrO.fr) (Rd.tpOf hd) (p + l + u) := by
    rw [R.res, Rd.res_down, hf]
    dsimp only
    have : (fs.map FrO.fr).length + 2 = fs.length + 2 := by simp
    rw [this, hb]
  refine ⟨R3.keep s5 (no D.rm D.rop) (no D.clm (Ne.symm D.opcl)) (no D.sgm D.sgop), res5, ?_, ?_, ?_, nd2, ?_, ?_, R.bot⟩
  · rw [← hH5, upd_same]
    simp
  · refine top_new hb N (fun a w ha h => s5 a w ?_ ha) ?_
    · have f5 : H2 a = none := by
        rcases h with h | h | h | h
        · rw [h]; exact fy
        · rw [h]; exact fn
        · rw [h]; exact fm
        · rw [h]; exact fl
      exact no (Ne.symm (newM inMl f5)) (Ne.symm (newM inOp f5))
    · intro q
      simp only [mutM, flatF, List.mem_append, List.mem_cons, List.not_mem_nil, or_false] at q
      rcases q with (q | q | q | q | q | q | q) | q | q | q | q
      · exact newM inR fl q.symm
      · exact newM inSg fl q.symm
      · exact newM inOp fl q.symm
      · exact newM inCl fl q.symm
      · exact n3 q
      · exact n5 q.symm
      · exact n6 q.symm
      · exact newM inX fl q.symm
      · exact newM inN fl q.symm
      · exact newM inMl fl q.symm
      · exact newM (inF q) fl rfl
  · refine ⟨⟨⟨dx, s5 _ _ (no D.xm (Ne.symm D.opx)) (s3 _ _ (by simpa using Ne.symm D.rx) obj2)⟩, s5 _ _ (no D.nm (Ne.symm D.opn)) (s3 _ _ (by simpa using Ne.symm D.rn) nm2), ?_, ?_, newM2 llM ll2, ?_, ?_⟩, ?_⟩
    · show H5 o.ml = _
      rw [← hH5, upd_ne (Ne.symm D.opm), upd_same]
      simp
    · exact s5 _ _ (no (fun (e : ll' = o.ml) => llM (by rw [e]; exact inMl)) (fun (e : ll' = op) => llM (by rw [e]; exact inOp))) (s3 _ _ (by simpa using llr) l2)
    · have e : pre.length + 1 + n = pre.length + (n + 1) := by omega
      show RowT K H5 _ named (Rd.toRow pre) o.xs (inner o.place (pre.length + 1 + n))
      rw [e]
      exact t6.to k
    · have e : pre.length + 1 + n = pre.length + (n + 1) := by omega
      show p + l = inner o.place (pre.length + 1 + n) + _ + _
      rw [e, t7, Rd.first_len hf]
    · exact R.pend.to k fun a ha w hw => by
        obtain ⟨g1, g2, g3, g4, g5, g6, g7⟩ := D.far a ha
        exact sH a w (by simp [g1, g3, g5, g6, g7]) hw
  · intro a ha e
    have a5 : H3 a ≠ none → False := fun h => by
      by_cases h1 : a = op
      · rw [← hH5, h1, upd_same] at e; cases e
      by_cases h2 : a = o.ml
      · rw [← hH5, upd_ne h1, h2, upd_same] at e; cases e
      rw [← hH5, upd_ne h1, upd_ne h2] at e
      exact h e
    apply a5
    obtain ⟨dy, q1⟩ := q1
    have old : a ∈ mutM r sg op cl o fs → H3 a ≠ none := fun hm => by
      by_cases h1 : a = r
      · obtain ⟨⟨d, z⟩, _⟩ := R3
        rw [h1, z]; simp
      have := al (mAl a hm)
      cases hh : H2 a with
      | none => exact absurd hh this
      | some w => rw [s3 a w (by simpa using h1) hh]; simp
    simp only [mutM, flatF, List.mem_append, List.mem_cons, List.not_mem_nil, or_false] at ha
    rcases ha with (q | q | q | q | q | q | q) | q | q | q | q
    · exact old (by rw [q]; exact inR)
    · exact old (by rw [q]; exact inSg)
    · exact old (by rw [q]; exact inOp)
    · exact old (by rw [q]; exact inCl)
    · rw [q, q1]; simp
    · rw [q, q2]; simp
    · rw [q, q3]; simp
    · exact old (by rw [q]; exact inX)
    · exact old (by rw [q]; exact inN)
    · exact old (by rw [q]; exact inMl)
    · exact old (inF q)
  · have h1 := R.len
    have h2 := (Rd.begin_le hb).1
    simp only [List.length_cons]
    omega
end
end Hs
end
section
set_option Elab.async false
set_option linter.all false
set_option maxRecDepth 100000
set_option maxHeartbeats 4000000
namespace Hs
open PySem PySem.Spec PyProof.Rows L2
theorem Flts.new {CF : Addr} {E : XK} {S : List Addr} {H H1 : Hp} {k p : Int} (f : Flts CF E [] H k p) (s : Same H H1) (h : ∀ a ∈ S, H a = none) : Flts CF E S H1 k p := fun H' d s' e =>
  f H' d (fun a o _ ho => s' a o (fun q => by rw [h a q] at ho; cases ho) (s a o ho)) e
theorem same_x {S : List Addr} {H0 H H' : Hp} (s : Same H0 H) (s' : SameX S H H') (h : ∀ a ∈ S, H0 a = none) : Same H0 H' := fun a o ho => s' a o (fun q => by rw [h a q] at ho; cases ho) (s a o ho)
theorem same_none {H0 H : Hp} (s : Same H0 H) {a : Addr} (h : H a = none) : H0 a = none := by
  cases e : H0 a with
  | none => rfl
  | some o => rw [s a o e] at h; cases h
/-- a list that stands in the heap -/
def TrL (H : Hp) (a : Addr) (xs : List V) : Prop := H a = some (.lst xs) ∨ ∃ o, H a = some (.frz o (.lst xs))
theorem TrL.seq {K : PySem.W.Frag} {H : Hp} {a : Addr} {xs : List V} (h : TrL H a xs) : SqL K H a xs := .inl h
theorem TrL.to {H H' : Hp} {a : Addr} {xs : List V} (h : TrL H a xs) (s : Same H H') : TrL H' a xs := by
  rcases h with h | ⟨o, h⟩
  · exact .inl (s _ _ h)
  · exact .inr ⟨o, s _ _ h⟩
theorem TrL.some {H : Hp} {a : Addr} {xs : List V} (h : TrL H a xs) : ∃ o, H a = some o := by
  rcases h with h | ⟨o, h⟩
  · exact ⟨_, h⟩
  · exact ⟨_, h⟩
section
variable {P : Program} {w : World} {K : PySem.W.Frag} {mg : Str → Option Value} {base : Heap}
theorem Run.init {H1 H2 : Hp} {b : Sw.Bytes} {r cl sg op x nl ml ll : Addr} {hd : Rd.Hd} {n : Nat} (R : Rdr K H2 r cl sg b n) (N : NewRaw K H1 H2 x (rfOf hd 0 nl ml ll)) (hb : Rd.beginAt 1 0 b = .ok (hd, n))
    (al : ∀ a ∈ [r, sg, cl], H1 a ≠ none) (hsc : sg ≠ cl) (ho : H2 op = none) (ho1 : H1 op = none) (hc2 : ∃ w, H2 cl = some w) :
    Run K (upd H2 op (.lst [V.ref x])) b r cl sg op x [] (Rd.tpOf hd) ⟨x, nl, ml, ll, [], 0⟩ n := by
  obtain ⟨⟨dx, q1⟩, q2, q3, q4, fy, fn, fm, fl, n1, n2, n3, n4, n5, n6⟩ := id N
  have eN : (rfOf hd 0 nl ml ll).nl = nl := by cases hd <;> rfl
  have eM : (rfOf hd 0 nl ml ll).ml = ml := by cases hd <;> rfl
  have eL : (rfOf hd 0 nl ml ll).ll = ll := by cases hd <;> rfl
  rw [eN] at fn n1 n4 n5 q2
  rw [eM] at fm n2 n4 n6 q3
  rw [eL] at fl n3 n5 n6 q4
  obtain ⟨⟨dr, r1⟩, r2, r3, r4, r5, r6⟩ := id R
  have ne : ∀ {a z : Addr}, a ∈ [r, sg, cl] → H1 z = none → a ≠ z := fun {a z} ha hz e => al a ha (by rw [e]; exact hz)
  have ne2 : ∀ {a : Addr} {o : HO}, H2 a = some o → op ≠ a := fun {a o} h e => by rw [← e, ho] at h; cases h
  have nd : (mutM r sg op cl ⟨x, nl, ml, ll, [], 0⟩ []).Nodup := dis_iff.mpr
    ⟨Ne.symm r5, Ne.symm (ne2 r1), Ne.symm r4, ne (by simp) fy, ne (by simp) fn, ne (by simp) fm, Ne.symm (ne2 r3), hsc, ne (by simp) fy, ne (by simp) fn, ne (by simp) fm, (fun e => al cl (by simp) (by rw [← e]; exact ho1)), ne2 q1, ne2 q2, ne2 q3,
      ne (by simp) fy, ne (by simp) fn, ne (by simp) fm, Ne.symm n1, Ne.symm n2, n4, List.nodup_nil, fun a ha => by cases ha⟩
  have D := dis_iff.mp nd
  have s : SameX [op] H2 (upd H2 op (.lst [V.ref x])) := samex_upd (by simp)
  have no : ∀ {a : Addr}, op ≠ a → a ∉ [op] := fun h => by simpa using Ne.symm h
  refine ⟨R.keep s (no (Ne.symm D.rop)) (no D.opcl) (no (Ne.symm D.sgop)), ?_, ?_, ?_, rfl, nd, ?_, ?_, rfl⟩
  · rw [Rd.res_init, hb]
    rfl
  · rw [upd_same]; rfl
  · have T := top_new (b := b) (M := mutM r sg op cl ⟨x, nl, ml, ll, [], 0⟩ []) (H5 := upd H2 op (.lst [V.ref x])) (q := 0) (u := n) (by exact hb) N (fun a z ha _ => s a z (no (ne2 ha)) ha) (by
      intro q
      simp only [mutM, flatF, List.mem_append, List.mem_cons, List.not_mem_nil, or_false] at q
      rcases q with q | q | q | q | q | q | q
      · exact ne (by simp) fl q.symm
      · exact ne (by simp) fl q.symm
      · exact ne2 q4 q.symm
      · exact ne (by simp) fl q.symm
      · exact n3 q
      · exact n5 q.symm
      · exact n6 q.symm)
    rw [Nat.zero_add] at T
    exact T
  · intro a ha
    by_cases e : a = op
    · rw [e, upd_same]; simp
    rw [upd_ne e]
    simp only [mutM, flatF, List.mem_append, List.mem_cons, List.not_mem_nil, or_false] at ha
    rcases ha with q | q | q | q | q | q | q
    · rw [q, r1]; simp
    · rw [q, r3]; simp
    · exact absurd q e
    · obtain ⟨w, hw⟩ := hc2; rw [q, hw]; simp
    · rw [q, q1]; simp
    · rw [q, q2]; simp
    · rw [q, q3]; simp
  · have := (Rd.begin_le hb).1
    simpa using this
def spReadValue (K : PySem.W.Frag) : Sp := fun vs H Q E => ∃ (cl : Addr) (b : Sw.Bytes), vs = [.ref cl] ∧ TrL H cl (byV b) ∧ b.length ≤ 100000 ∧
  (∀ v, Sw.decode b = .ok v → ∀ H' x, Same H H' → RawT K H' [] v x 0 → Q (.ref x) H') ∧ (∀ e, Sw.decode b = .error e → Flts (CF K) E [] H 1 (e.place : Int))
def rvW (K : PySem.W.Frag) (H : Hp) (b : Sw.Bytes) (r cl sg op x : Addr) : Nat → L2.St → Hp → Prop := fun m σ H' =>
  (∃ fs t o p c4 c5 c6, σ = [some (V.ref cl), some (V.ref r), some (V.ref x), some (V.ref op), c4, c5, c6] ∧ Run K H' b r cl sg op x fs t o p ∧ Same H H' ∧ (∀ a ∈ mutM r sg op cl o fs, a ≠ cl → a ≠ sg → H a = none) ∧ m = 2 * (b.length - p) + fs.length + 1) ∨
  (∃ v p c4 c5 c6, σ = [some (V.ref cl), some (V.ref r), some (V.ref x), some (V.ref op), c4, c5, c6] ∧ H' op = some (.lst []) ∧ Rdr K H' r cl sg b p ∧ Rd.vAt 1 0 b = .ok (v, p) ∧ RawT K H' [] v x 0 ∧ Same H H' ∧ m = 0)
theorem ok_read_value (T : TRd K mg) : FnOk P w K mg base (L2.CX P w) 6 (ga K "read_value") (fdA K (ga K "read_value")) ["codes"] (spReadValue K) := by
  have GN : FnOk P w K mg base (L2.CX P w) 1 (ga K "need") (fdA K (ga K "need")) ["good", "place"] (spNeed K) := ok_need T.fa
  have bN := b_need T.fa.need.f
  have GI : FnOk P w K mg base CX0 2 (ma K "Reader" "__init__") (fdA K (ma K "Reader" "__init__")) ["self", "codes"] (spRdInit K) := ok_rdInit T
  have bI := b_Reader___init__ T.RdI.f
  have GB : FnOk P w K mg base (L2.CX P w) 5 (ma K "Reader" "begin") (fdA K (ma K "Reader" "begin")) ["self", "level"] (spBegin K) := ok_begin T
  have bB := b_Reader_begin T.begin_.f
  have GM : FnOk P w K mg base (L2.CX P w) 5 (ma K "Reader" "read_name") (fdA K (ma K "Reader" "read_name")) ["self", "record"] (spReadName K) := ok_read_name T
  have bM := b_Reader_read_name T.read_name.f
  refine T.read_value.f.okX sc_read_value (fun vs H Q E h => by obtain ⟨_, _, rfl, _⟩ := h; rfl) (fun cdv A outer s H vs Q E hr h => ⟨_,
    (pss_cons (ps_set (i := 1) sc_read_value.nd rfl (Or.inl rfl) (by exact (pe_make T.RdC.mkr GI (hr.mono (by decide)) rfl T.RdC.g bI .nil pass0 (pa_cons (pv 0) pa_nil))))
    (pss_cons (ps_set (i := 2) sc_read_value.nd rfl (Or.inl rfl) (pe_meth (pv 1) T.RdC.cl T.begin_.me GB hr bB .nil (passes_call (takes_of (E := E) rfl rfl rfl rfl) (fun _ _ _ _ h => h)) (pa_cons pe_int pa_nil)))
    (pss_cons (ps_set (i := 3) sc_read_value.nd rfl (Or.inl rfl) (pe_lst (pa_cons (pv 2) pa_nil)))
    (pss_cons (ps_while (passes_of rfl) (pt_truth (pv 3) (by intro _; rfl))
      (pss_cons (ps_set (i := 4) sc_read_value.nd rfl (Or.inl rfl) (pe_ix ix_list (pv 3) (pe_un un_neg pe_int) (fun _ _ => rfl)))
      (pss_one (ps_if (pt_cmpR op_gt (pe_fld (pv 4) rfl) pe_int (nomark _))
        (pss_cons (ps_fldaug (pv 4) pe_int in_sub)
        (pss_cons (ps_if (pt_cmpR op_eq (pe_fld (pv 4) rfl) (pe_intT T.RECORD) (nomark _)) (pss_one (ps_expr (pe_meth (pv 1) T.RdC.cl T.read_name.me GM hr bM .nil (passes_call (takes_of (E := E) rfl rfl rfl rfl) (fun _ _ _ _ h => h)) (pa_cons (pv 4) pa_nil)))) pss_nil)
        (pss_cons (ps_set (i := 5) sc_read_value.nd rfl (Or.inl rfl) (pe_meth (pv 1) T.RdC.cl T.begin_.me GB hr bB .nil (passes_call (takes_of (E := E) rfl rfl rfl rfl) (fun _ _ _ _ h => h)) (pa_cons (pe_op op_add (pe_callB call_len_seq (by rfl) T.len PySem.boot_len (pa_cons (pv 3) pa_nil)) pe_int) pa_nil)))
        (pss_cons (ps_expr (pe_bm PySem.F.plainAttrs_list PySem.F.slot_list_append PySem.F.type_list_append mt_append (pe_fld (pv 4) rfl) (pa_cons (pv 5) pa_nil)))
        (pss_one (ps_expr (pe_bm PySem.F.plainAttrs_list PySem.F.slot_list_append PySem.F.type_list_append mt_append (pv 3) (pa_cons (pv 5) pa_nil))))))))
        (pss_cons (ps_expr (pe_bm0 PySem.F.plainAttrs_list PySem.F.slot_list_pop PySem.F.type_list_pop mt_pop (pv 3)))
        (pss_one (ps_if (pt_truth (pv 3) (by intro _; rfl))
          (pss_cons (ps_set (i := 6) sc_read_value.nd rfl (Or.inl rfl) (pe_ix ix_list (pv 3) (pe_un un_neg pe_int) (fun _ _ => rfl)))
          (pss_one (ps_fld (pv 6) (pe_callB (call_max2 rfl) (by rfl) T.max (by decide +kernel) (pa_cons (pe_fld (pv 6) rfl) (pa_cons (pe_op op_add (pe_fld (pv 4) rfl) pe_int) pa_nil))) rfl)))
          pss_nil)))))))
    (pss_cons (ps_expr (pe_call GN (hr.mono (by decide)) rfl T.fa.need.g T.fa.need.kp bN .nil (passes_call (takes_of (E := E) rfl rfl rfl rfl) (fun _ _ _ _ h => h))
      (pa_cons (pe_cmpR op_eq (pe_fld (pv 1) rfl) (pe_callB call_len (by rfl) T.len PySem.boot_len (pa_cons (pv 0) pa_nil)) (nomark _)) (pa_cons (pe_fld (pv 1) rfl) pa_nil))))
    (pss_one (ps_ret (pv 2)))))))), ?_⟩)
  obtain ⟨cl, b, rfl, hT, hb, kOk, kEr⟩ := h
  obtain ⟨oc, hoc⟩ := hT.some
  refine ⟨_, rfl, fun r dr nr ndr ndrr => ⟨r, dr, cl, b, rfl, upd_same, ?_, ?_, fun H1 sg s1 R1 => ⟨rfl, ?_⟩⟩⟩
  · exact (hT.to ((same_upd ndr).trans (same_upd (by rw [upd_ne (Ne.symm ndrr)]; exact nr)))).seq
  · exact fun e => by rw [e, nr] at hoc; cases hoc
  have S1 : Same H H1 := fun a o ha => s1 a o (by simpa using ne_of_none ha nr) (by rw [upd_ne (ne_of_none ha nr), upd_ne (ne_of_none ha ndr)]; exact ha)
  obtain ⟨⟨d1, r1⟩, _, g1, _, g2, _⟩ := id R1
  have T1 := hT.to S1
  have hsc : sg ≠ cl := fun e => by
    rw [e] at g1
    rcases T1 with h | ⟨_, h⟩
    · rw [h] at g1; cases g1
    · rw [h] at g1; cases g1
  have hd0 : b.drop 0 = b := rfl
  refine ⟨_, rfl, r, d1, _, rfl, r1, rdF_begin, r, cl, sg, b, 0, 1, rfl, R1, hb, fun hd n hbg H2 x nl ml ll s2 R2 N => ?_, fun e he => ?_⟩
  · rw [hd0] at hbg
    rw [Nat.zero_add] at R2
    have S2 : Same H H2 := same_x S1 s2 (by simpa using nr)
    obtain ⟨oc1, hoc1⟩ := T1.some
    refine ⟨_, rfl, (by show 1 ≤ sizeLine; rw [sizeLine_eq]; decide), fun op ho => ?_⟩
    have ho1 : H1 op = none := fresh_back s2 ho (fun e => by obtain ⟨⟨d, z⟩, _⟩ := id R2; rw [e, z] at ho; cases ho)
    have R0 := Run.init R2 N hbg (by
      intro a ha
      simp only [List.mem_cons, List.not_mem_nil, or_false] at ha
      rcases ha with h | h | h
      · rw [h, r1]; simp
      · rw [h, g1]; simp
      · rw [h, hoc1]; simp) hsc ho ho1 (hT.to S2).some
    have S3 : Same H (upd H2 op (.lst [V.ref x])) := S2.trans (same_upd ho)
    have nw0 : ∀ a ∈ mutM r sg op cl ⟨x, nl, ml, ll, [], 0⟩ [], a ≠ cl → a ≠ sg → H a = none := by
      intro a ha hc hs
      obtain ⟨_, _, _, _, fy, fn, fm, _⟩ := id N
      have eN : (rfOf hd 0 nl ml ll).nl = nl := by cases hd <;> rfl
      have eM : (rfOf hd 0 nl ml ll).ml = ml := by cases hd <;> rfl
      rw [eN] at fn
      rw [eM] at fm
      simp only [mutM, flatF, List.mem_append, List.mem_cons, List.not_mem_nil, or_false] at ha
      rcases ha with q | q | q | q | q | q | q
      · rw [q]; exact nr
      · exact absurd q hs
      · rw [q]; exact same_none S1 ho1
      · exact absurd q hc
      · rw [q]; exact same_none S1 fy
      · rw [q]; exact same_none S1 fn
      · rw [q]; exact same_none S1 fm
    refine ⟨rvW K H b r cl sg op x, ⟨_, .inl ⟨[], Rd.tpOf hd, ⟨x, nl, ml, ll, [], 0⟩, n, none, none, none, rfl, R0, S3, nw0, rfl⟩⟩, ?_⟩
    rintro m σ H' (⟨fs, t, o, p, c4, c5, c6, rfl, R, S, nw, rfl⟩ | ⟨v, p, c4, c5, c6, rfl, ho', R', hv, hT', S, rfl⟩)
    · have hne : (!(((fs.map FrO.x).reverse ++ [o.x]).map V.ref).isEmpty) = true := by simp
      refine ⟨_, rfl, true, .inl ⟨_, SqL.of R.opn, hne.symm⟩, iteT ⟨_, fun _ _ h => h, ?_⟩⟩
      have hlast : atI (((fs.map FrO.x).reverse ++ [o.x]).map V.ref) (-1) = some (V.ref o.x) := by
        rw [List.map_append]
        exact atI_last _ _
      have n := fun f h => T.rawN f h
      have D := R.dis
      dsimp only [tSeq, tAsg, tOp, gName]
      refine ⟨_, rfl, _, rfl, _, _, _, _, rfl, rfl, SqL.of R.opn, hlast, ?_⟩
      cases hv : doneV t with
      | some v =>
        obtain ⟨w1, w2, w3, dx, lx, w4⟩ := R.full hv
        dsimp only [tIfS, tTest, tOp]
        refine rdFld (i := 4) (by rfl) w4 T.RawC.cl (n _ (by simp)) (RF.l_missing _) ?_
        refine ⟨_, _, rfl, rfl, _, rfl, iteF ?_⟩
        have hlast2 : ((((fs.map FrO.x).reverse ++ [o.x]).map V.ref)[((((fs.map FrO.x).reverse ++ [o.x]).map V.ref)).length - 1]?) = some (V.ref o.x) := by simp
        have hdl : (((fs.map FrO.x).reverse ++ [o.x]).map V.ref).dropLast = (((fs.map FrO.x).reverse)).map V.ref := by
          rw [List.map_append]
          exact List.dropLast_concat
        dsimp only [tSeq, tDrop, tBM0, tIfS]
        refine ⟨_, rfl, .inl ⟨rfl, _, SqL.of R.opn⟩, _, _, _, rfl, rfl, R.opn, hlast2, ?_⟩
        rw [hdl]
        have hle := R.rd.2.2.2.2.2
        cases fs with
        | nil =>
          refine ⟨_, rfl, false, .inl ⟨_, SqL.of upd_same, rfl⟩, iteF ⟨0, by omega, .inr ⟨v, p, some (V.ref o.x), c5, c6, rfl, upd_same, ?_, w1, ?_, ?_, rfl⟩⟩⟩
          · exact R.rd.keep (samex_upd (S := [op]) (by simp)) (by simpa using D.rop) (by simpa using Ne.symm D.opcl) (by simpa using D.sgop)
          · have hb0 : x = o.x := R.bot
            have hp0 : o.place = 0 := R.pend
            rw [hp0, ← hb0] at w2
            refine w2.to fun a u ha hn => ⟨?_, by simp⟩
            rw [upd_ne (fun e => hn (by rw [e]; simp [mutM0]))]
            exact ha
          · exact same_x S (samex_upd (S := [op]) (by simp)) (fun a ha => by
              have : a = op := by simpa using ha
              rw [this]
              exact nw op (by simp [mutM]) D.opcl (Ne.symm D.sgop))
        | cons f fs =>
          obtain ⟨P1, P2⟩ := R.pend
          obtain ⟨df, f1⟩ := P1.obj
          have fop : f.x ≠ op := (D.far f.x (by simp [flatF])).2.2.1
          have fcl : f.x ≠ cl := (D.far f.x (by simp [flatF])).2.2.2.1
          have fsg : f.x ≠ sg := (D.far f.x (by simp [flatF])).2.1
          have f2 : (upd H' op (.lst ((((f :: fs).map FrO.x).reverse).map V.ref))) f.x = some (.ins (CRaw K) df (rowRF f.fr.named f.place f.nl f.ml f.ll f.fr.left ((Rd.toRow f.fr.pre).deep + 1)).fs) := by
            rw [upd_ne fop]; exact f1
          have w5 : (upd H' op (.lst ((((f :: fs).map FrO.x).reverse).map V.ref))) o.x = some (.ins (CRaw K) dx (rfV v o.place o.nl o.ml lx).fs) := by
            rw [upd_ne (Ne.symm D.opx)]; exact w4
          have hne2 : (!((((f :: fs).map FrO.x).reverse).map V.ref).isEmpty) = true := by simp
          have hlast3 : atI ((((f :: fs).map FrO.x).reverse).map V.ref) (-1) = some (V.ref f.x) := by
            rw [List.map_cons, List.reverse_cons, List.map_append]
            exact atI_last _ _
          refine ⟨_, rfl, true, .inl ⟨_, SqL.of upd_same, hne2.symm⟩, iteT ?_⟩
          dsimp only [tSeq, tAsg, tOp, gName, sFld]
          refine ⟨_, rfl, _, rfl, _, _, _, _, rfl, rfl, SqL.of upd_same, hlast3, ?_⟩
          dsimp only [tCB, tCons, tOp]
          refine rdFld (i := 6) (by rfl) f2 T.RawC.cl (n _ (by simp)) (RF.l_deep _) ?_
          refine rdFld (i := 4) (by rfl) w5 T.RawC.cl (n _ (by simp)) (RF.l_deep _) ?_
          refine ⟨_, _, rfl, rfl, _, _, rfl, ?_⟩
          refine ⟨_, rfl, _, _, df, _, rfl, f2, T.RawC.cl, n _ (by simp), RF.len _, ?_⟩
          have hmax : (if ((v.deep : Nat) : Int) + 1 > (((Rd.toRow f.fr.pre).deep + 1 : Nat) : Int) then ((v.deep : Nat) : Int) + 1 else (((Rd.toRow f.fr.pre).deep + 1 : Nat) : Int)) = ((max (Rd.toRow f.fr.pre).deep v.deep + 1 : Nat) : Int) := by
            split <;> omega
          have hput : putF "deep" (V.int (if ((v.deep : Nat) : Int) + 1 > (((Rd.toRow f.fr.pre).deep + 1 : Nat) : Int) then ((v.deep : Nat) : Int) + 1 else (((Rd.toRow f.fr.pre).deep + 1 : Nat) : Int))) (rowRF f.fr.named f.place f.nl f.ml f.ll f.fr.left ((Rd.toRow f.fr.pre).deep + 1)).fs = (rowRF f.fr.named f.place f.nl f.ml f.ll f.fr.left (max (Rd.toRow f.fr.pre).deep v.deep + 1)).fs := by
            rw [hmax]
            exact RF.p_deep _ _
          have RP := R.pop hv (dx := df)
          rw [← hput] at RP
          refine ⟨_, ?_, .inl ⟨fs, _, _, p, _, c5, _, rfl, RP, ?_, ?_, rfl⟩⟩
          · simp only [List.length_cons]; omega
          · exact same_x S (S := [op, f.x]) ((samex_upd (by simp)).trans (samex_upd (by simp))) (fun a ha => by
              simp only [List.mem_cons, List.not_mem_nil, or_false] at ha
              rcases ha with h | h
              · rw [h]; exact nw op (by simp [mutM]) D.opcl (Ne.symm D.sgop)
              · rw [h]; exact nw f.x (by simp [mutM, flatF]) fcl fsg)
          · intro a ha
            refine nw a ?_
            simp only [mutM, flatF, List.mem_append, List.mem_cons, List.not_mem_nil, or_false] at ha ⊢
            rcases ha with (h | h | h | h | h | h | h) | h <;> simp [h]
      | none =>
        obtain ⟨named, pre, n', prev, rfl⟩ : ∃ named pre n' prev, t = .row named pre (n' + 1) prev := by
          cases t with
          | leaf v => cases hv
          | row named pre left prev =>
            cases left with
            | zero => cases hv
            | succ k => exact ⟨_, _, _, _, rfl⟩
        obtain ⟨⟨dx, t1⟩, t2, t3, t4, t5, t6, t7⟩ := R.top
        have hle := R.rd.2.2.2.2.2
        have hxs : o.xs.length ≤ p := by
          have e1 := rowT_len t6
          have e2 := Rd.row_len_enc named (Rd.toRow pre)
          omega
        have hpre : pre.length ≤ p := by
          have e1 := rowT_len t6
          rw [Rd.toRow_len] at e1
          omega
        have hfs := R.len
        dsimp only [tIfS, tTest, tOp]
        refine rdFld (i := 4) (by rfl) t1 T.RawC.cl (n _ (by simp)) (RF.l_missing _) ?_
        refine ⟨_, _, rfl, rfl, _, rfl, ?_⟩
        refine iteD (fun _ => ?_) (fun q => absurd (show ((n' + 1 : Nat) : Int) > 0 by omega) q)
        dsimp only [tSeq, sFldAug, tC]
        refine ⟨_, rfl, o.x, _, dx, _, _, rfl, t1, T.RawC.cl, n _ (by simp), RF.l_missing _, _, _, rfl, rfl, dx, _, t1, RF.len _, ?_⟩
        have hput : putF "missing" (V.int (((n' + 1 : Nat) : Int) - 1)) (rowRF named o.place o.nl o.ml o.ll (n' + 1) ((Rd.toRow pre).deep + 1)).fs = (rowRF named o.place o.nl o.ml o.ll n' ((Rd.toRow pre).deep + 1)).fs := by
          have : (((n' + 1 : Nat) : Int) - 1) = (n' : Int) := by omega
          rw [this]
          exact RF.p_missing _ _
        show tIfS _ _ _ _ _ (upd H' o.x (.ins (CRaw K) dx (putF "missing" (V.int (((n' + 1 : Nat) : Int) - 1)) (rowRF named o.place o.nl o.ml o.ll (n' + 1) ((Rd.toRow pre).deep + 1)).fs)))
        rw [hput]
        have sM : SameX [o.x] H' (upd H' o.x (.ins (CRaw K) dx (rowRF named o.place o.nl o.ml o.ll n' ((Rd.toRow pre).deep + 1)).fs)) := samex_upd (by simp)
        generalize hHM : upd H' o.x (.ins (CRaw K) dx (rowRF named o.place o.nl o.ml o.ll n' ((Rd.toRow pre).deep + 1)).fs) = HM at sM ⊢
        have tM : HM o.x = some (.ins (CRaw K) dx (rowRF named o.place o.nl o.ml o.ll n' ((Rd.toRow pre).deep + 1)).fs) := by rw [← hHM, upd_same]
        have RM : Rdr K HM r cl sg b p := R.rd.keep sM (by simpa using D.rx) (by simpa using D.clx) (by simpa using D.sgx)
        have SM : Same H HM := same_x S sM (fun a ha => by
          have : a = o.x := by simpa using ha
          rw [this]
          exact nw o.x (by simp [mutM]) (Ne.symm D.clx) (Ne.symm D.sgx))
        have mN : HM o.nl = some (.lst (nmV named (Rd.toRow pre).names)) := sM _ _ (by simpa using Ne.symm D.xn) t2
        have mMl : HM o.ml = some (.lst (o.xs.map V.ref)) := sM _ _ (by simpa using Ne.symm D.xm) t3
        have mOp : HM op = some (.lst (((fs.map FrO.x).reverse ++ [o.x]).map V.ref)) := sM _ _ (by simpa using D.opx) R.opn
        have llx : o.ll ≠ o.x := fun e => t5 (by rw [e]; simp [mutM])
        have lln : o.ll ≠ o.nl := fun e => t5 (by rw [e]; simp [mutM])
        have llr : o.ll ≠ r := fun e => t5 (by rw [e]; simp [mutM])
        have mL : HM o.ll = some (.lst (byV (lb named (prev.getD [])))) := sM _ _ (by simpa using llx) t4
        dsimp only [tIfS, tTest, tOp]
        refine rdFld (i := 4) (by rfl) tM T.RawC.cl (n _ (by simp)) (RF.l_kind _) ?_
        refine ⟨rfl, _, rfl, ?_⟩
        rw [dec_int]
        cases named with
        | false =>
          refine iteD (fun q => absurd q (by show ¬ ((5 : Nat) : Int) = 6; decide)) (fun _ => ?_)
          have hF : Rd.firstAt false prev p (b.drop p) = .ok ([], 0) := rfl
          have mN2 : HM o.nl = some (.lst (nmV false ((Rd.toRow pre).names ++ [[]]))) := mN
          have RM' : Rdr K HM r cl sg b (p + 0) := RM

          dsimp only [tNext, tSeq, tAsg, tDrop, tBM, gName]
          obtain ⟨⟨d2, r2⟩, _⟩ := id RM'
          refine ⟨_, rfl, r, d2, _, rfl, r2, rdF_begin, ?_⟩
          dsimp only [tCons, tNil, tOp, tCB, tC]
          refine ⟨_, rfl, _, _, rfl, .inl (SqL.of mOp), _, _, rfl, rfl, ?_⟩
          have hlev : ((((((fs.map FrO.x).reverse ++ [o.x]).map V.ref).length : Nat) : Int) + 1) = ((fs.length + 2 : Nat) : Int) := by simp; omega
          refine ⟨r, cl, sg, b, (p + 0), fs.length + 2, congrArg (fun z => [V.ref r, V.int z]) hlev, RM', hb, fun hd2 u hbg2 H5 y ynl yml yll s5 R5 N5 => ?_, fun e he => ?_⟩
          · have mM : H5 o.ml = some (.lst (o.xs.map V.ref)) := s5 _ _ (by simpa using Ne.symm D.rm) mMl
            have mO : H5 op = some (.lst (((fs.map FrO.x).reverse ++ [o.x]).map V.ref)) := s5 _ _ (by simpa using Ne.symm D.rop) mOp
            have mX := s5 _ _ (show o.x ∉ [r] by simpa using Ne.symm D.rx) tM
            refine rdFld (i := 4) (by rfl) mX T.RawC.cl (n _ (by simp)) (RF.l_members _) ?_
            refine ⟨.inl ⟨rfl, _, SqL.of mM⟩, _, rfl, _, _, _, rfl, rfl, mM, by rw [List.length_map, sizeLine_eq]; omega, ?_⟩
            have mO2 : (upd H5 o.ml (.lst (o.xs.map V.ref ++ [V.ref y]))) op = some (.lst (((fs.map FrO.x).reverse ++ [o.x]).map V.ref)) := by rw [upd_ne D.opm]; exact mO
            refine ⟨_, rfl, .inl ⟨rfl, _, SqL.of mO2⟩, _, rfl, _, _, _, rfl, rfl, mO2, by simp only [List.length_map, List.length_append, List.length_reverse, List.length_cons, List.length_nil]; rw [sizeLine_eq]; omega, ?_⟩
            have RD := R.down hF hbg2 (sM.mono (S' := [r, o.x, o.nl]) (by simp)) tM mN2 mL (.inl rfl) ⟨_, r2⟩ s5 R5 N5
            have hle5 := R5.2.2.2.2.2
            have hu := (Rd.begin_le hbg2).1
            refine ⟨_, ?_, .inl ⟨_, _, _, _, _, _, c6, rfl, RD, ?_, ?_, rfl⟩⟩
            · simp only [List.length_cons]; omega
            · have sA : SameX [r, o.x, o.nl, o.ml, op] H' (upd (upd H5 o.ml (.lst (o.xs.map V.ref ++ [V.ref y]))) op (.lst (((fs.map FrO.x).reverse ++ [o.x]).map V.ref ++ [V.ref y]))) := ((sM.mono (S' := [r, o.x, o.nl]) (by simp)).mono (by simp)).trans ((s5.mono (by simp)).trans ((samex_upd (by simp)).trans (samex_upd (by simp))))
              exact same_x S sA fun a ha => by
                simp only [List.mem_cons, List.not_mem_nil, or_false] at ha
                rcases ha with h | h | h | h | h
                · rw [h]; exact nw r (by simp [mutM]) D.rcl D.rsg
                · rw [h]; exact nw o.x (by simp [mutM]) (Ne.symm D.clx) (Ne.symm D.sgx)
                · rw [h]; exact nw o.nl (by simp [mutM]) (Ne.symm D.cln) (Ne.symm D.sgn)
                · rw [h]; exact nw o.ml (by simp [mutM]) (Ne.symm D.clm) (Ne.symm D.sgm)
                · rw [h]; exact nw op (by simp [mutM]) D.opcl (Ne.symm D.sgop)
            · intro a ha hc hs
              obtain ⟨_, _, _, _, fy, fn, fm, _⟩ := id N5
              have eN : (rfOf hd2 (p + 0) ynl yml yll).nl = ynl := by cases hd2 <;> rfl
              have eM : (rfOf hd2 (p + 0) ynl yml yll).ml = yml := by cases hd2 <;> rfl
              rw [eN] at fn
              rw [eM] at fm
              simp only [mutM, flatF, List.mem_append, List.mem_cons, List.not_mem_nil, or_false] at ha
              rcases ha with (q | q | q | q | q | q | q) | q | q | q | q
              · exact nw a (by simp [mutM, q]) hc hs
              · exact nw a (by simp [mutM, q]) hc hs
              · exact nw a (by simp [mutM, q]) hc hs
              · exact nw a (by simp [mutM, q]) hc hs
              · rw [q]; exact same_none SM fy
              · rw [q]; exact same_none SM fn
              · rw [q]; exact same_none SM fm
              · exact nw a (by simp [mutM, q]) hc hs
              · exact nw a (by simp [mutM, q]) hc hs
              · exact nw a (by simp [mutM, q]) hc hs
              · exact nw a (by simp [mutM, q]) hc hs
          · have e1 : Rd.vAt 1 0 b = .error e := by
              rw [R.res, Rd.res_down, hF]
              dsimp only
              have : (fs.map FrO.fr).length + 2 = fs.length + 2 := by simp
              rw [this, he]
            have e2 : Sw.decode b = .error e := by rw [Rd.decode_eq, e1]
            exact (kEr e e2).new SM (by simpa using nr)
        | true =>
          refine iteD (fun _ => ?_) (fun q => absurd rfl q)
          have eNs : ∀ l : List Sw.Bytes, nmV true l = (l.map spell).map V.str := fun l => by
            show l.map (fun n => V.str (spell n)) = _
            rw [List.map_map]; rfl
          have C : RecAt K HM r o.x dx (rowRF true o.place o.nl o.ml o.ll n' ((Rd.toRow pre).deep + 1)) ((Rd.toRow pre).names.map spell) (prev.getD []) :=
            ⟨tM, by rw [← eNs]; exact mN, mL, Ne.symm D.rx, Ne.symm D.rn, Ne.symm D.xn, llr, llx, lln⟩
          have hnl : ((Rd.toRow pre).names.map spell).length < 200000 := by
            have : ∀ m : Sw.Row, m.names.length = m.length := fun m => by
              induction m using Sw.Row.rec (motive_1 := fun _ => True) with
              | nil => rfl
              | cons n v r _ ih => exact congrArg (· + 1) ih
              | _ => trivial
            rw [List.length_map, this, Rd.toRow_len]
            omega
          obtain ⟨⟨d2, r2⟩, _⟩ := id RM
          dsimp only [tDrop]
          refine ⟨_, rfl, r, d2, _, rfl, r2, rdF_read_name, _, rfl, r, cl, sg, b, p, o.x, dx, _, _, prev, rfl, RM, hb, C, hnl, D.clx, D.cln, D.sgx, D.sgn, fun m l hm HB ll' sB0 RM2 hl0 CB => ?_, fun e he => ?_⟩
          · have hF2 : Rd.firstAt true prev p (b.drop p) = .ok (m, l) := hm
            have sB : SameX [r, o.x, o.nl] H' HB := (sM.mono (by simp)).trans sB0
            have tM2 : HB o.x = some (.ins (CRaw K) dx (rowRF true o.place o.nl o.ml ll' n' ((Rd.toRow pre).deep + 1)).fs) := CB.at_
            have mN3 : HB o.nl = some (.lst (nmV true ((Rd.toRow pre).names ++ [m]))) := by
              rw [eNs, List.map_append]
              exact CB.names
            have mL2 : HB ll' = some (.lst (byV (lb true m))) := CB.last
            have mMl2 : HB o.ml = some (.lst (o.xs.map V.ref)) := sB _ _ (by simp [Ne.symm D.rm, Ne.symm D.xm, Ne.symm D.nm]) t3
            have mOp2 : HB op = some (.lst (((fs.map FrO.x).reverse ++ [o.x]).map V.ref)) := sB _ _ (by simp [Ne.symm D.rop, D.opx, D.opn]) R.opn
            have hl0 : H' ll' = none := by
              cases e : H' ll' with
              | none => rfl
              | some w =>
                by_cases q : ll' = o.x
                · rw [q, tM] at hl0; cases hl0
                · rw [sM _ _ (by simpa using q) e] at hl0; cases hl0
            have SM2 : Same H HB := same_x S sB (fun a ha => by
              simp only [List.mem_cons, List.not_mem_nil, or_false] at ha
              rcases ha with h | h | h
              · rw [h]; exact nw r (by simp [mutM]) D.rcl D.rsg
              · rw [h]; exact nw o.x (by simp [mutM]) (Ne.symm D.clx) (Ne.symm D.sgx)
              · rw [h]; exact nw o.nl (by simp [mutM]) (Ne.symm D.cln) (Ne.symm D.sgn))
            dsimp only [tNext, tSeq, tAsg, tDrop, tBM, gName]
            obtain ⟨⟨d2, r2⟩, _⟩ := id RM2
            refine ⟨_, rfl, r, d2, _, rfl, r2, rdF_begin, ?_⟩
            dsimp only [tCons, tNil, tOp, tCB, tC]
            refine ⟨_, rfl, _, _, rfl, .inl (SqL.of mOp2), _, _, rfl, rfl, ?_⟩
            have hlev : ((((((fs.map FrO.x).reverse ++ [o.x]).map V.ref).length : Nat) : Int) + 1) = ((fs.length + 2 : Nat) : Int) := by simp; omega
            refine ⟨r, cl, sg, b, (p + l), fs.length + 2, congrArg (fun z => [V.ref r, V.int z]) hlev, RM2, hb, fun hd2 u hbg2 H5 y ynl yml yll s5 R5 N5 => ?_, fun e he => ?_⟩
            · have mM : H5 o.ml = some (.lst (o.xs.map V.ref)) := s5 _ _ (by simpa using Ne.symm D.rm) mMl2
              have mO : H5 op = some (.lst (((fs.map FrO.x).reverse ++ [o.x]).map V.ref)) := s5 _ _ (by simpa using Ne.symm D.rop) mOp2
              have mX := s5 _ _ (show o.x ∉ [r] by simpa using Ne.symm D.rx) tM2
              refine rdFld (i := 4) (by rfl) mX T.RawC.cl (n _ (by simp)) (RF.l_members _) ?_
              refine ⟨.inl ⟨rfl, _, SqL.of mM⟩, _, rfl, _, _, _, rfl, rfl, mM, by rw [List.length_map, sizeLine_eq]; omega, ?_⟩
              have mO2 : (upd H5 o.ml (.lst (o.xs.map V.ref ++ [V.ref y]))) op = some (.lst (((fs.map FrO.x).reverse ++ [o.x]).map V.ref)) := by rw [upd_ne D.opm]; exact mO
              refine ⟨_, rfl, .inl ⟨rfl, _, SqL.of mO2⟩, _, rfl, _, _, _, rfl, rfl, mO2, by simp only [List.length_map, List.length_append, List.length_reverse, List.length_cons, List.length_nil]; rw [sizeLine_eq]; omega, ?_⟩
              have RD := R.down hF2 hbg2 sB tM2 mN3 mL2 (.inr hl0) ⟨_, r2⟩ s5 R5 N5
              have hle5 := R5.2.2.2.2.2
              have hu := (Rd.begin_le hbg2).1
              refine ⟨_, ?_, .inl ⟨_, _, _, _, _, _, c6, rfl, RD, ?_, ?_, rfl⟩⟩
              · simp only [List.length_cons]; omega
              · have sA : SameX [r, o.x, o.nl, o.ml, op] H' (upd (upd H5 o.ml (.lst (o.xs.map V.ref ++ [V.ref y]))) op (.lst (((fs.map FrO.x).reverse ++ [o.x]).map V.ref ++ [V.ref y]))) := (sB.mono (by simp)).trans ((s5.mono (by simp)).trans ((samex_upd (by simp)).trans (samex_upd (by simp))))
                exact same_x S sA fun a ha => by
                  simp only [List.mem_cons, List.not_mem_nil, or_false] at ha
                  rcases ha with h | h | h | h | h
                  · rw [h]; exact nw r (by simp [mutM]) D.rcl D.rsg
                  · rw [h]; exact nw o.x (by simp [mutM]) (Ne.symm D.clx) (Ne.symm D.sgx)
                  · rw [h]; exact nw o.nl (by simp [mutM]) (Ne.symm D.cln) (Ne.symm D.sgn)
                  · rw [h]; exact nw o.ml (by simp [mutM]) (Ne.symm D.clm) (Ne.symm D.sgm)
                  · rw [h]; exact nw op (by simp [mutM]) D.opcl (Ne.symm D.sgop)
              · intro a ha hc hs
                obtain ⟨_, _, _, _, fy, fn, fm, _⟩ := id N5
                have eN : (rfOf hd2 (p + l) ynl yml yll).nl = ynl := by cases hd2 <;> rfl
                have eM : (rfOf hd2 (p + l) ynl yml yll).ml = yml := by cases hd2 <;> rfl
                rw [eN] at fn
                rw [eM] at fm
                simp only [mutM, flatF, List.mem_append, List.mem_cons, List.not_mem_nil, or_false] at ha
                rcases ha with (q | q | q | q | q | q | q) | q | q | q | q
                · exact nw a (by simp [mutM, q]) hc hs
                · exact nw a (by simp [mutM, q]) hc hs
                · exact nw a (by simp [mutM, q]) hc hs
                · exact nw a (by simp [mutM, q]) hc hs
                · rw [q]; exact same_none SM2 fy
                · rw [q]; exact same_none SM2 fn
                · rw [q]; exact same_none SM2 fm
                · exact nw a (by simp [mutM, q]) hc hs
                · exact nw a (by simp [mutM, q]) hc hs
                · exact nw a (by simp [mutM, q]) hc hs
                · exact nw a (by simp [mutM, q]) hc hs
            · have e1 : Rd.vAt 1 0 b = .error e := by
                rw [R.res, Rd.res_down, hF2]
                dsimp only
                have : (fs.map FrO.fr).length + 2 = fs.length + 2 := by simp
                rw [this, he]
              have e2 : Sw.decode b = .error e := by rw [Rd.decode_eq, e1]
              exact (kEr e e2).new SM2 (by simpa using nr)
          · have e1 : Rd.vAt 1 0 b = .error e := by
              have hF3 : Rd.firstAt true prev p (b.drop p) = .error e := he
              rw [R.res, Rd.res_down, hF3]
            have e2 : Sw.decode b = .error e := by rw [Rd.decode_eq, e1]
            exact (kEr e e2).new SM (fun a ha => by
              simp only [List.mem_cons, List.not_mem_nil, or_false] at ha
              rcases ha with h | h | h
              · rw [h]; exact nw r (by simp [mutM]) D.rcl D.rsg
              · rw [h]; exact nw o.x (by simp [mutM]) (Ne.symm D.clx) (Ne.symm D.sgx)
              · rw [h]; exact nw o.nl (by simp [mutM]) (Ne.symm D.cln) (Ne.symm D.sgn))
    · refine ⟨_, rfl, _, .inl ⟨[], SqL.of ho', rfl⟩, iteF ?_⟩
      have hdec : Sw.decode b = if p < b.length then .error ⟨8, p⟩ else .ok v := by rw [Rd.decode_eq, hv]
      dsimp only [tSeq, tDrop, tCall, tCons, tOp]
      refine rdAt (i := 1) T R' (by rfl) ?_
      refine ⟨_, rfl, _, b.length, rfl, .inl ⟨_, R'.2.1, (byV_len b).symm⟩, rfl, ?_⟩
      refine rdAt (i := 1) T R' (by rfl) ?_
      have hle := R'.2.2.2.2.2
      refine ⟨_, _, rfl, fun g => ?_, fun g => ?_⟩
      · rw [dec_int] at g
        have hp : p = b.length := by have := of_decide_eq_true g; omega
        rw [if_neg (by omega)] at hdec
        exact ⟨_, rfl, kOk v hdec H' x S hT'⟩
      · rw [dec_int] at g
        have hp : p < b.length := by have := of_decide_eq_false g; omega
        rw [if_pos hp] at hdec
        exact ((kEr _ hdec).new S (by simp))
  · rw [hd0] at he
    have e1 : Rd.vAt 1 0 b = .error e := by rw [Rd.res_init, he]
    have e2 : Sw.decode b = .error e := by rw [Rd.decode_eq, e1]
    exact (kEr e e2).new S1 (by simpa using nr)
end
end Hs
end
section
set_option Elab.async false
set_option linter.all false
set_option maxRecDepth 100000
set_option maxHeartbeats 2000000
namespace Hs
open PySem PySem.Spec PyProof.Rows L2
def pl : List Nat := [97, 98, 99, 100, 101, 102, 103, 104, 105, 106, 107, 108, 109, 110, 111, 112, 113, 114, 115, 116, 117, 118, 119, 120, 121, 122, 65, 66, 67, 68, 69, 70, 71, 72, 73, 74, 75, 76, 77, 78, 79, 80, 81, 82, 83, 84, 85, 86, 87, 88, 89, 90, 48, 49, 50, 51, 52, 53, 54, 55, 56, 57, 95, 61, 33, 60, 62, 43, 45, 42, 47]
def digs (n : Nat) : List Nat := if n < 10 then [48 + n] else if n < 100 then [48 + n / 10, 48 + n % 10] else [48 + n / 100, 48 + n / 10 % 10, 48 + n % 10]
/-- a byte's signs -/
def sp1L (n : Nat) : List Nat := if pl.contains n = true then [n] else 35 :: (digs n ++ [59])
theorem sp1_codes : ∀ c : UInt8, (sp1 c).cps.toList = sp1L c.toNat := by
  have h : ∀ n : Fin 256, (sp1 (UInt8.ofNat n.val)).cps.toList = sp1L (UInt8.ofNat n.val).toNat := by decide +kernel
  intro c
  have := h ⟨c.toNat, c.toNat_lt⟩
  rw [show UInt8.ofNat c.toNat = c from UInt8.ofNat_toNat] at this
  exact this
def rdNum : Nat → List Nat → Nat
  | acc, [] => acc
  | acc, d :: r => if d = 59 then acc else rdNum (acc * 10 + (d - 48)) r
def firstOf (l : List Nat) : Nat := if l.head? = some 35 then rdNum 0 l.tail else l.headD 0
theorem rd_digs {n : Nat} (h : n < 256) (r : List Nat) : rdNum 0 (digs n ++ 59 :: r) = n := by
  unfold digs
  split
  · show rdNum 0 ((48 + n) :: 59 :: r) = n
    rw [rdNum, if_neg (by omega), rdNum, if_pos rfl]
    omega
  split
  · show rdNum 0 ((48 + n / 10) :: (48 + n % 10) :: 59 :: r) = n
    rw [rdNum, if_neg (by omega), rdNum, if_neg (by omega), rdNum, if_pos rfl]
    omega
  · show rdNum 0 ((48 + n / 100) :: (48 + n / 10 % 10) :: (48 + n % 10) :: 59 :: r) = n
    rw [rdNum, if_neg (by omega), rdNum, if_neg (by omega), rdNum, if_neg (by omega), rdNum, if_pos rfl]
    omega
theorem first_sp1 {n : Nat} (h : n < 256) (r : List Nat) : firstOf (sp1L n ++ r) = n := by
  unfold sp1L
  split
  · rename_i q
    have : n ≠ 35 := by intro e; subst e; revert q; decide
    unfold firstOf
    rw [if_neg (by simpa using this)]
    rfl
  · unfold firstOf
    show rdNum 0 ((digs n ++ [59]) ++ r) = n
    rw [List.append_assoc]
    exact rd_digs h r
theorem sp1_ne (n : Nat) : sp1L n ≠ [] := by
  unfold sp1L
  split <;> simp
theorem flat_inj : ∀ a b : Sw.Bytes, (a.flatMap fun c => sp1L c.toNat) = (b.flatMap fun c => sp1L c.toNat) → a = b
  | [], [], _ => rfl
  | [], c :: b, h => by
    rw [List.flatMap_nil, List.flatMap_cons] at h
    exact absurd (List.append_eq_nil_iff.mp h.symm).1 (sp1_ne _)
  | c :: a, [], h => by
    rw [List.flatMap_nil, List.flatMap_cons] at h
    exact absurd (List.append_eq_nil_iff.mp h).1 (sp1_ne _)
  | c :: a, d :: b, h => by
    rw [List.flatMap_cons, List.flatMap_cons] at h
    by_cases e : c = d
    · subst e
      rw [flat_inj a b (List.append_cancel_left h)]
    · exfalso
      have q := congrArg firstOf h
      rw [first_sp1 c.toNat_lt, first_sp1 d.toNat_lt] at q
      exact e (UInt8.toNat_inj.mp q)
theorem joinL_nil : ∀ l : List (List Nat), TL.joinL [] l = l.flatten
  | [] => rfl
  | [p] => by simp [TL.joinL]
  | p :: q :: r => by
    rw [TL.joinL, joinL_nil (q :: r)]
    simp
theorem join_codes : ∀ l : List Str, (Txt.join (Str.ofString "") l).cps.toList = l.flatMap fun s => s.cps.toList := by
  intro l
  rw [TL.join_eq]
  show TL.tl (Str.join _ l) = _
  rw [TL.tl_join]
  show TL.joinL [] _ = _
  rw [joinL_nil, List.flatMap_def]
theorem spell_codes (b : Sw.Bytes) : (spell b).cps.toList = b.flatMap fun c => sp1L c.toNat := by
  unfold spell
  rw [join_codes, List.flatMap_map]
  congr 1
  funext c
  exact sp1_codes c
theorem spell_inj {a b : Sw.Bytes} (h : spell a = spell b) : a = b := flat_inj a b (by rw [← spell_codes, ← spell_codes, h])
end Hs
end
section
set_option Elab.async false
set_option linter.all false
namespace Kt
open Sw War
/-! ### kinds by numbers -/
inductive Rw where
  | nothing
  | plain (k : Nat)
  | list (p : Nat)
  | record (ns : List Bytes) (ps : List Nat)
  | sort (m n : Bytes)
  deriving DecidableEq
def Rw.parts : Rw → List Nat
  | .list p => [p]
  | .record _ ps => ps
  | _ => []
def rowOf : List Bytes → List K → KRow
  | n :: ns, k :: ks => .cons n k (rowOf ns ks)
  | _, _ => .nil
/-- what a row means, if its parts mean f -/
def Rw.mean (f : Nat → K) : Rw → K
  | .nothing => .nothing
  | .plain k => .plain k
  | .list p => .list (f p)
  | .record ns ps => .record (rowOf ns (ps.map f))
  | .sort m n => .sort m n
def stepK (acc : List K) (r : Rw) : List K := acc ++ [r.mean fun p => acc.getD p .nothing]
def kOf (T : List Rw) : List K := T.foldl stepK []
/-- the kind that the i-th row means -/
def kAt (T : List Rw) (i : Nat) : K := (kOf T).getD i .nothing
theorem kOf_snoc (T : List Rw) (r : Rw) : kOf (T ++ [r]) = kOf T ++ [r.mean (kAt T)] := by
  unfold kOf
  rw [List.foldl_append]
  rfl
theorem snocInd {α : Type} {p : List α → Prop} (h0 : p []) (h1 : ∀ l x, p l → p (l ++ [x])) : ∀ l, p l := by
  intro l
  rw [← List.reverse_reverse l]
  induction l.reverse with
  | nil => exact h0
  | cons x m ih => rw [List.reverse_cons]; exact h1 _ _ ih
theorem kOf_len (T : List Rw) : (kOf T).length = T.length := by
  induction T using snocInd with
  | h0 => rfl
  | h1 T r ih => rw [kOf_snoc]; simp [ih]
theorem kAt_snoc_lt {T : List Rw} {r : Rw} {i : Nat} (h : i < T.length) : kAt (T ++ [r]) i = kAt T i := by
  unfold kAt
  rw [kOf_snoc, List.getD_eq_getElem?_getD, List.getD_eq_getElem?_getD, List.getElem?_append_left (by rw [kOf_len]; exact h)]
theorem kAt_snoc_eq (T : List Rw) (r : Rw) : kAt (T ++ [r]) T.length = r.mean (kAt T) := by
  unfold kAt
  rw [kOf_snoc, List.getD_eq_getElem?_getD, List.getElem?_append_right (by rw [kOf_len]; exact Nat.le_refl _), kOf_len, Nat.sub_self]
  rfl
def RwOk (n : Nat) (r : Rw) : Prop := (∀ p ∈ r.parts, p < n) ∧ ∀ ns ps, r = .record ns ps → ns.length = ps.length
structure WF (T : List Rw) : Prop where
  ok : ∀ i r, T[i]? = some r → RwOk i r
  nd : T.Nodup
theorem mean_congr {f g : Nat → K} {r : Rw} (h : ∀ p ∈ r.parts, f p = g p) : r.mean f = r.mean g := by
  cases r with
  | list p => exact congrArg K.list (h p (by simp [Rw.parts]))
  | record ns ps =>
    have : ps.map f = ps.map g := List.map_congr_left fun p hp => h p hp
    show K.record _ = K.record _
    rw [this]
  | _ => rfl
theorem wf_nil : WF [] := ⟨(fun i r h => by simp at h), List.nodup_nil⟩
theorem WF.snoc {T : List Rw} (W : WF T) {r : Rw} (h : RwOk T.length r) (n : r ∉ T) : WF (T ++ [r]) := by
  refine ⟨fun i x hx => ?_, ?_⟩
  · by_cases q : i < T.length
    · rw [List.getElem?_append_left q] at hx
      exact W.ok i x hx
    · have hi : i < (T ++ [r]).length := (List.getElem?_eq_some_iff.mp hx).1
      have : i = T.length := by simp at hi; omega
      subst this
      simp at hx
      subst hx
      exact h
  · rw [List.nodup_append]
    exact ⟨W.nd, by simp, fun a ha b hb => by
      have : b = r := by simpa using hb
      subst this
      intro e
      subst e
      exact n ha⟩
theorem kAt_row : ∀ {T : List Rw}, WF T → ∀ {i : Nat} {r : Rw}, T[i]? = some r → kAt T i = r.mean (kAt T) := by
  intro T
  induction T using snocInd with
  | h0 => intro _ i r h; cases h
  | h1 T x ih =>
    intro W i r h
    have W' : WF T := ⟨fun j y hy => W.ok j y (by rw [List.getElem?_append_left (List.getElem?_eq_some_iff.mp hy).1]; exact hy), (List.nodup_append.mp W.nd).1⟩
    have ok := (W.ok i r h).1
    have hi : i < (T ++ [x]).length := (List.getElem?_eq_some_iff.mp h).1
    rw [List.length_append, List.length_singleton] at hi
    have low : r.mean (kAt (T ++ [x])) = r.mean (kAt T) := mean_congr fun p hp => kAt_snoc_lt (by have := ok p hp; omega)
    rw [low]
    by_cases q : i < T.length
    · rw [List.getElem?_append_left q] at h
      rw [kAt_snoc_lt q]
      exact ih W' h
    · have : i = T.length := by omega
      subst this
      simp at h
      subst h
      exact kAt_snoc_eq T x
theorem rowOf_inj : ∀ {ns ms : List Bytes} {ks ls : List K}, ns.length = ks.length → ms.length = ls.length → rowOf ns ks = rowOf ms ls → ns = ms ∧ ks = ls
  | [], [], [], [], _, _, _ => ⟨rfl, rfl⟩
  | [], m :: ms, [], l :: ls, _, _, h => by cases h
  | n :: ns, [], k :: ks, [], _, _, h => by cases h
  | n :: ns, m :: ms, k :: ks, l :: ls, h1, h2, h => by
    injection h with e1 e2 e3
    obtain ⟨e4, e5⟩ := rowOf_inj (by simpa using h1) (by simpa using h2) e3
    rw [e1, e2, e4, e5]
    exact ⟨rfl, rfl⟩
  | [], _, _ :: _, _, h, _, _ => by cases h
  | _ :: _, _, [], _, h, _, _ => by cases h
  | _, [], _, _ :: _, _, h, _ => by cases h
  | _, _ :: _, _, [], _, h, _ => by cases h
theorem map_inj_lt {f : Nat → K} {n : Nat} (h : ∀ i j, i < n → f i = f j → i = j) : ∀ {ps qs : List Nat}, (∀ p ∈ ps, p < n) → ps.map f = qs.map f → ps = qs
  | [], [], _, _ => rfl
  | [], _ :: _, _, e => by cases e
  | _ :: _, [], _, e => by cases e
  | p :: ps, q :: qs, hp, e => by
    rw [List.map_cons, List.map_cons] at e
    injection e with e1 e2
    rw [h p q (hp p (by simp)) e1, map_inj_lt h (fun x hx => hp x (by simp [hx])) e2]
/-- different rows mean different kinds -/
theorem kAt_inj {T : List Rw} (W : WF T) : ∀ i j, i < T.length → j < T.length → kAt T i = kAt T j → i = j := by
  intro i
  induction i using Nat.strongRecOn with
  | _ i ih =>
    intro j hi hj h
    obtain ⟨r, hr⟩ : ∃ r, T[i]? = some r := ⟨_, List.getElem?_eq_getElem hi⟩
    obtain ⟨s, hs⟩ : ∃ s, T[j]? = some s := ⟨_, List.getElem?_eq_getElem hj⟩
    rw [kAt_row W hr, kAt_row W hs] at h
    have o1 := W.ok i r hr
    have o2 := W.ok j s hs
    have key : r = s := by
      cases r with
      | nothing => cases s <;> first | rfl | cases h
      | plain k => cases s <;> first | (injection h with h; rw [h]) | cases h
      | sort m n => cases s <;> first | (injection h with h1 h2; rw [h1, h2]) | cases h
      | list p => cases s with
        | list q =>
          injection h with h
          have hp := o1.1 p (by simp [Rw.parts])
          have hq := o2.1 q (by simp [Rw.parts])
          rw [ih p hp q (by omega) (by omega) h]
        | _ => cases h
      | record ns ps => cases s with
        | record ms qs =>
          injection h with h
          have l1 := o1.2 _ _ rfl
          have l2 := o2.2 _ _ rfl
          obtain ⟨e1, e2⟩ := rowOf_inj (by simpa using l1) (by simpa using l2) h
          subst e1
          have hps : ∀ p ∈ ps, p < i := fun p hp => o1.1 p hp
          have hqs : ∀ q ∈ qs, q < j := fun q hq => o2.1 q hq
          have e3 : ∀ {as bs : List Nat}, (∀ p ∈ as, p < i) → (∀ q ∈ bs, q < j) → as.map (kAt T) = bs.map (kAt T) → as = bs := by
            intro as
            induction as with
            | nil => intro bs _ _ e; cases bs with
              | nil => rfl
              | cons => cases e
            | cons a as iha =>
              intro bs h1 h2 e
              cases bs with
              | nil => cases e
              | cons b bs =>
                rw [List.map_cons, List.map_cons] at e
                injection e with e1 e2
                have g1 := h1 a (by simp)
                have g2 := h2 b (by simp)
                rw [ih a g1 b (by omega) (by omega) e1, iha (fun p hp => h1 p (by simp [hp])) (fun q hq => h2 q (by simp [hq])) e2]
          rw [e3 hps hqs e2]
        | _ => cases h
    subst key
    exact (List.getElem?_inj hi W.nd).mp (hr.trans hs.symm)
/-! ### nothing, and agreeing -/
mutual
def hasNo : K → Bool
  | .nothing => true
  | .list k => hasNo k
  | .record l => hasNoR l
  | _ => false
def hasNoR : KRow → Bool
  | .nil => false
  | .cons _ k r => hasNo k || hasNoR r
end
mutual
theorem agree_self : ∀ k : K, k.agree k = some k
  | .nothing => by rw [K.agree]
  | .plain k => by rw [K.agree, if_pos rfl] <;> simp
  | .sort m n => by rw [K.agree, if_pos ⟨rfl, rfl⟩] <;> simp
  | .list k => by rw [K.agree, agree_self k] <;> simp
  | .record l => by rw [K.agree, agreeR_self l] <;> simp
theorem agreeR_self : ∀ l : KRow, l.agree l = some l
  | .nil => by rw [KRow.agree]
  | .cons n k r => by rw [KRow.agree, if_pos rfl, agree_self k, agreeR_self r]; rfl
end
mutual
/-- without nothing kinds agree only if they're the same -/
theorem agree_solid : ∀ (a b c : K), hasNo a = false → hasNo b = false → a.agree b = some c → a = b
  | .nothing, b, c, h, _, _ => by cases h
  | .plain k, .nothing, c, _, h, _ => by cases h
  | .plain k, .plain l, c, _, _, h => by
    rw [K.agree] at h
    · split at h
      · rename_i e; rw [e]
      · cases h
    all_goals simp
  | .plain k, .list b, c, _, _, h => by rw [K.agree] at h <;> first | cases h | simp
  | .plain k, .record b, c, _, _, h => by rw [K.agree] at h <;> first | cases h | simp
  | .plain k, .sort m n, c, _, _, h => by rw [K.agree] at h <;> first | cases h | simp
  | .list a, .nothing, c, _, h, _ => by cases h
  | .list a, .plain l, c, _, _, h => by rw [K.agree] at h <;> first | cases h | simp
  | .list a, .list b, c, h1, h2, h => by
    rw [K.agree] at h
    · cases e : a.agree b with
      | none => rw [e] at h; cases h
      | some d => rw [agree_solid a b d h1 h2 e]
    all_goals simp
  | .list a, .record b, c, _, _, h => by rw [K.agree] at h <;> first | cases h | simp
  | .list a, .sort m n, c, _, _, h => by rw [K.agree] at h <;> first | cases h | simp
  | .record a, .nothing, c, _, h, _ => by cases h
  | .record a, .plain l, c, _, _, h => by rw [K.agree] at h <;> first | cases h | simp
  | .record a, .list b, c, _, _, h => by rw [K.agree] at h <;> first | cases h | simp
  | .record a, .record b, c, h1, h2, h => by
    rw [K.agree] at h
    · cases e : a.agree b with
      | none => rw [e] at h; cases h
      | some d => rw [agreeR_solid a b d h1 h2 e]
    all_goals simp
  | .record a, .sort m n, c, _, _, h => by rw [K.agree] at h <;> first | cases h | simp
  | .sort m n, .nothing, c, _, h, _ => by cases h
  | .sort m n, .plain l, c, _, _, h => by rw [K.agree] at h <;> first | cases h | simp
  | .sort m n, .list b, c, _, _, h => by rw [K.agree] at h <;> first | cases h | simp
  | .sort m n, .record b, c, _, _, h => by rw [K.agree] at h <;> first | cases h | simp
  | .sort m n, .sort p q, c, _, _, h => by
    rw [K.agree] at h
    · split at h
      · rename_i e; rw [e.1, e.2]
      · cases h
    all_goals simp
theorem agreeR_solid : ∀ (a b c : KRow), hasNoR a = false → hasNoR b = false → a.agree b = some c → a = b
  | .nil, .nil, c, _, _, _ => rfl
  | .nil, .cons _ _ _, c, _, _, h => by rw [KRow.agree] at h <;> first | cases h | simp
  | .cons _ _ _, .nil, c, _, _, h => by rw [KRow.agree] at h <;> first | cases h | simp
  | .cons n a r, .cons m b s, c, h1, h2, h => by
    rw [hasNoR, Bool.or_eq_false_iff] at h1 h2
    rw [KRow.agree] at h
    split at h
    · rename_i e
      subst e
      cases e1 : a.agree b with
      | none => rw [e1] at h; cases h
      | some d =>
        rw [e1] at h
        dsimp only at h
        cases e2 : r.agree s with
        | none => rw [e2] at h; cases h
        | some t => rw [agree_solid a b d h1.1 h2.1 e1, agreeR_solid r s t h1.2 h2.2 e2]
    · cases h
end
/-- two rows that differ in their parts alone -/
def alikeR : Rw → Rw → Bool
  | .nothing, .nothing => true
  | .plain k, .plain l => k == l
  | .list _, .list _ => true
  | .record ns _, .record ms _ => ns == ms
  | .sort m n, .sort p q => m == p && n == q
  | _, _ => false
def Rw.withParts (r : Rw) (ms : List Nat) : Rw := match r with
  | .list _ => .list (ms.headD 0)
  | .record ns _ => .record ns ms
  | r => r
/-- what the pairs agree on, each; none, if one pair doesn't -/
def agreeL (f : Nat → K) : List (Nat × Nat) → Option (List K)
  | [] => some []
  | p :: l => match (f p.1).agree (f p.2) with
    | none => none
    | some k => (agreeL f l).map (k :: ·)
theorem agree_rows (f : Nat → K) : ∀ (ns : List Bytes) (ps qs : List Nat), ns.length = ps.length → ns.length = qs.length → (rowOf ns (ps.map f)).agree (rowOf ns (qs.map f)) = (agreeL f (ps.zip qs)).map (rowOf ns)
  | [], [], [], _, _ => by
    show KRow.agree .nil .nil = _
    rw [KRow.agree]; rfl
  | n :: ns, p :: ps, q :: qs, h1, h2 => by
    have ih := agree_rows f ns ps qs (by simpa using h1) (by simpa using h2)
    show KRow.agree (.cons n (f p) (rowOf ns (ps.map f))) (.cons n (f q) (rowOf ns (qs.map f))) = _
    rw [KRow.agree, if_pos rfl, List.zip_cons_cons, agreeL]
    cases (f p).agree (f q) with
    | none => rfl
    | some k =>
      dsimp only
      rw [ih]
      cases agreeL f (ps.zip qs) with
      | none => rfl
      | some l => rfl
  | [], _ :: _, _, h, _ => by cases h
  | [], [], _ :: _, _, h => by cases h
  | _ :: _, [], _, h, _ => by cases h
  | _ :: _, _ :: _, [], _, h => by cases h
theorem rows_differ : ∀ {ns ms : List Bytes} {ks ls : List K}, ns.length = ks.length → ms.length = ls.length → ns ≠ ms → (rowOf ns ks).agree (rowOf ms ls) = none
  | [], [], _, _, _, _, h => absurd rfl h
  | [], m :: ms, [], l :: ls, _, _, _ => by
    show KRow.agree .nil (.cons m l (rowOf ms ls)) = none
    rw [KRow.agree] <;> simp
  | n :: ns, [], k :: ks, [], _, _, _ => by
    show KRow.agree (.cons n k (rowOf ns ks)) .nil = none
    rw [KRow.agree] <;> simp
  | n :: ns, m :: ms, k :: ks, l :: ls, h1, h2, h => by
    show KRow.agree (.cons n k (rowOf ns ks)) (.cons m l (rowOf ms ls)) = none
    rw [KRow.agree]
    by_cases e : n = m
    · rw [if_pos e]
      have hne : ns ≠ ms := fun z => h (by rw [e, z])
      rw [rows_differ (by simpa using h1) (by simpa using h2) hne]
      cases k.agree l <;> rfl
    · rw [if_neg e]
  | [], _ :: _, _ :: _, _, h, _, _ => by cases h
  | [], _ :: _, [], [], _, h, _ => by cases h
  | _ :: _, [], [], _, h, _, _ => by cases h
  | _ :: _, [], _ :: _, _ :: _, _, h, _ => by cases h
  | _ :: _, _ :: _, [], _, h, _, _ => by cases h
  | _ :: _, _ :: _, _ :: _, [], _, h, _ => by cases h
section
variable {f : Nat → K} {n m : Nat} {r s : Rw}
theorem nothing_left (k : K) : K.agree .nothing k = some k := by rw [K.agree]
theorem nothing_right (k : K) : k.agree .nothing = some k := by
  cases k with
  | nothing => rw [K.agree]
  | _ => rw [K.agree]; simp
def Rw.ofParts (f : Nat → K) (r : Rw) (ks : List K) : K := match r with
  | .list _ => .list (ks.headD .nothing)
  | .record ns _ => .record (rowOf ns ks)
  | r => r.mean f
theorem mean_alike (h : alikeR r s = true) (o1 : RwOk n r) (o2 : RwOk m s) : (r.mean f).agree (s.mean f) = (agreeL f (r.parts.zip s.parts)).map (r.ofParts f) := by
  cases r with
  | nothing => cases s <;> first | cases h | skip
               exact agree_self .nothing
  | plain k => cases s <;> first | cases h | skip
               rename_i l
               have e : k = l := by simpa [alikeR] using h
               subst e
               exact agree_self (.plain k)
  | sort a b => cases s <;> first | cases h | skip
                rename_i c d
                have e : a = c ∧ b = d := by simpa [alikeR] using h
                obtain ⟨rfl, rfl⟩ := e
                exact agree_self (.sort a b)
  | list p => cases s <;> first | cases h | skip
              rename_i q
              show K.agree (.list (f p)) (.list (f q)) = _
              rw [K.agree]
              · show _ = (agreeL f [(p, q)]).map _
                rw [agreeL, agreeL]
                cases (f p).agree (f q) <;> rfl
              all_goals simp
  | record ns ps => cases s <;> first | cases h | skip
                    rename_i ms qs
                    have e : ns = ms := by simpa [alikeR] using h
                    subst e
                    show K.agree (.record (rowOf ns (ps.map f))) (.record (rowOf ns (qs.map f))) = _
                    rw [K.agree]
                    · rw [agree_rows f ns ps qs (o1.2 _ _ rfl) (o2.2 _ _ rfl)]
                      show _ = (agreeL f (ps.zip qs)).map _
                      cases agreeL f (ps.zip qs) <;> rfl
                    all_goals simp
theorem mean_unlike (h : alikeR r s = false) (o1 : RwOk n r) (o2 : RwOk m s) (hr : r ≠ .nothing) (hs : s ≠ .nothing) : (r.mean f).agree (s.mean f) = none := by
  cases r with
  | nothing => exact absurd rfl hr
  | plain k => cases s with
    | nothing => exact absurd rfl hs
    | plain l =>
      have e : ¬ k = l := by simpa [alikeR] using h
      show K.agree (.plain k) (.plain l) = none
      rw [K.agree, if_neg e] <;> simp
    | _ => simp [Rw.mean, K.agree]
  | sort a b => cases s with
    | nothing => exact absurd rfl hs
    | sort c d =>
      have e : ¬ (a = c ∧ b = d) := by simpa [alikeR] using h
      show K.agree (.sort a b) (.sort c d) = none
      rw [K.agree, if_neg e] <;> simp
    | _ => simp [Rw.mean, K.agree]
  | list p => cases s with
    | nothing => exact absurd rfl hs
    | list q => cases h
    | _ => simp [Rw.mean, K.agree]
  | record ns ps => cases s with
    | nothing => exact absurd rfl hs
    | record ms qs =>
      have e : ns ≠ ms := by simpa [alikeR] using h
      show K.agree (.record (rowOf ns (ps.map f))) (.record (rowOf ms (qs.map f))) = none
      rw [K.agree]
      · rw [rows_differ (by rw [List.length_map]; exact o1.2 _ _ rfl) (by rw [List.length_map]; exact o2.2 _ _ rfl) e]
        rfl
      all_goals simp
    | _ => simp [Rw.mean, K.agree]
end
/-! ### what's asked of a pair -/
inductive All2 {α β : Type} (R : α → β → Prop) : List α → List β → Prop
  | nil : All2 R [] []
  | cons {a : α} {b : β} {l : List α} {m : List β} (h : R a b) (t : All2 R l m) : All2 R (a :: l) (b :: m)
theorem All2.len {α β : Type} {R : α → β → Prop} {l : List α} {m : List β} (h : All2 R l m) : l.length = m.length := by
  induction h with
  | nil => rfl
  | cons _ _ ih => simp [ih]
theorem agreeL_some {f : Nat → K} {l : List (Nat × Nat)} {ms : List Nat} (h : All2 (fun p m => (f p.1).agree (f p.2) = some (f m)) l ms) : agreeL f l = some (ms.map f) := by
  induction h with
  | nil => rfl
  | cons h t ih => rw [agreeL, h]; dsimp only; rw [ih]; rfl
theorem agreeL_none {f : Nat → K} : ∀ {l : List (Nat × Nat)}, (∃ p ∈ l, (f p.1).agree (f p.2) = none) → agreeL f l = none
  | [], ⟨_, h, _⟩ => by cases h
  | q :: l, ⟨p, h, e⟩ => by
    rw [agreeL]
    rcases List.mem_cons.mp h with z | z
    · subst z
      rw [e]
    · rw [agreeL_none ⟨p, z, e⟩]
      cases (f q.1).agree (f q.2) <;> rfl
def hollowAt (T : List Rw) (i : Nat) : Bool := hasNo (kAt T i)
def rowAt (T : List Rw) (i : Nat) : Rw := T.getD i .nothing
/-- the pairs of parts that must agree, so that two kinds do; none, if that isn't asked -/
def pairsIn (T : List Rw) (i j : Nat) : List (Nat × Nat) :=
  if (i = j ∨ (hollowAt T i || hollowAt T j) = false) ∨ alikeR (rowAt T i) (rowAt T j) = false then [] else (rowAt T i).parts.zip (rowAt T j).parts
theorem rowAt_eq {T : List Rw} {i : Nat} (h : i < T.length) : T[i]? = some (rowAt T i) := by
  unfold rowAt
  rw [List.getD_eq_getElem?_getD, List.getElem?_eq_getElem h]
  rfl
theorem kAt_mean {T : List Rw} (W : WF T) {i : Nat} (h : i < T.length) : kAt T i = (rowAt T i).mean (kAt T) := kAt_row W (rowAt_eq h)
theorem alike_same {r s : Rw} {n m : Nat} (h : alikeR r s = true) (o1 : RwOk n r) (o2 : RwOk m s) (z : r.parts.zip s.parts = []) : r = s := by
  cases r with
  | nothing => cases s <;> first | cases h | skip
               rfl
  | plain k => cases s <;> first | cases h | skip
               rename_i l
               have e : k = l := by simpa [alikeR] using h
               rw [e]
  | sort a b => cases s <;> first | cases h | skip
                rename_i c d
                have e : a = c ∧ b = d := by simpa [alikeR] using h
                rw [e.1, e.2]
  | list p => cases s <;> first | cases h | skip
              cases z
  | record ns ps => cases s <;> first | cases h | skip
                    rename_i ms qs
                    have e : ns = ms := by simpa [alikeR] using h
                    subst e
                    have l1 := o1.2 _ _ rfl
                    have l2 := o2.2 _ _ rfl
                    cases ps with
                    | nil => cases qs with
                      | nil => rfl
                      | cons q qs => simp at l1 l2; rw [l1] at l2; cases l2
                    | cons p ps => cases qs with
                      | nil => simp at l1 l2; rw [l2] at l1; cases l1
                      | cons q qs => cases z
theorem withParts_mean {r s : Rw} {n m : Nat} {f : Nat → K} {ms : List Nat} (h : alikeR r s = true) (o1 : RwOk n r) (o2 : RwOk m s) (nz : r.parts.zip s.parts ≠ []) (l : (r.parts.zip s.parts).length = ms.length) :
    r.ofParts f (ms.map f) = (r.withParts ms).mean f := by
  cases r with
  | nothing => rfl
  | plain k => rfl
  | sort a b => rfl
  | record ns ps => rfl
  | list p =>
    cases s <;> first | cases h | skip
    cases ms with
    | nil => cases l
    | cons m ms => rfl
theorem withParts_ok {r s : Rw} {n m k : Nat} {ms : List Nat} (h : alikeR r s = true) (o1 : RwOk n r) (o2 : RwOk m s) (l : (r.parts.zip s.parts).length = ms.length) (hm : ∀ x ∈ ms, x < k) : RwOk k (r.withParts ms) := by
  cases r with
  | nothing => exact ⟨(fun p hp => by cases hp), fun ns ps e => by cases e⟩
  | plain k => exact ⟨(fun p hp => by cases hp), fun ns ps e => by cases e⟩
  | sort a b => exact ⟨(fun p hp => by cases hp), fun ns ps e => by cases e⟩
  | list p =>
    cases s <;> first | cases h | skip
    cases ms with
    | nil => cases l
    | cons x ms => exact ⟨(fun p hp => by
        have : p = x := by simpa [Rw.withParts, Rw.parts] using hp
        rw [this]
        exact hm x (by simp)), fun ns ps e => by cases e⟩
  | record ns ps =>
    cases s <;> first | cases h | skip
    rename_i ks qs
    have e : ns = ks := by simpa [alikeR] using h
    subst e
    have l1 := o1.2 _ _ rfl
    have l2 := o2.2 _ _ rfl
    refine ⟨fun p hp => hm p hp, fun as bs e => ?_⟩
    injection e with e1 e2
    subst e1 e2
    show ns.length = ms.length
    rw [← l]
    show ns.length = (ps.zip qs).length
    rw [List.length_zip]
    omega
/-- **what two different kinds agree on**, by what their parts do -/
theorem join {T : List Rw} (W : WF T) {i j : Nat} (hi : i < T.length) (hj : j < T.length) (ne : i ≠ j) (hr : rowAt T i ≠ .nothing) (hs : rowAt T j ≠ .nothing) :
    (pairsIn T i j = [] → (kAt T i).agree (kAt T j) = none) ∧ ((∃ p ∈ pairsIn T i j, (kAt T p.1).agree (kAt T p.2) = none) → (kAt T i).agree (kAt T j) = none) ∧
    (∀ ms, All2 (fun p m => (kAt T p.1).agree (kAt T p.2) = some (kAt T m)) (pairsIn T i j) ms → pairsIn T i j ≠ [] → (kAt T i).agree (kAt T j) = some (((rowAt T i).withParts ms).mean (kAt T))) := by
  have o1 := W.ok i _ (rowAt_eq hi)
  have o2 := W.ok j _ (rowAt_eq hj)
  have e1 := kAt_mean W hi
  have e2 := kAt_mean W hj
  unfold pairsIn
  refine ⟨fun z => ?_, fun h => ?_, fun ms h nz => ?_⟩
  · by_cases al : alikeR (rowAt T i) (rowAt T j) = true
    · by_cases hol : (hollowAt T i || hollowAt T j) = false
      · rw [Bool.or_eq_false_iff] at hol
        cases e : (kAt T i).agree (kAt T j) with
        | none => rfl
        | some c => exact absurd (kAt_inj W i j hi hj (agree_solid _ _ c hol.1 hol.2 e)) ne
      · rw [if_neg (by rintro ((q | q) | q); exact ne q; exact hol q; rw [al] at q; cases q)] at z
        have := alike_same al o1 o2 z
        have q1 := rowAt_eq hi
        have q2 := rowAt_eq hj
        rw [← this] at q2
        exact absurd ((List.getElem?_inj hi W.nd).mp (q1.trans q2.symm)) ne
    · rw [e1, e2]
      exact mean_unlike (by simpa using al) o1 o2 hr hs
  · split at h
    · obtain ⟨_, h, _⟩ := h; cases h
    · rename_i q
      have al : alikeR (rowAt T i) (rowAt T j) = true := by
        cases z : alikeR (rowAt T i) (rowAt T j) with
        | true => rfl
        | false => exact absurd (.inr z) q
      rw [e1, e2, mean_alike al o1 o2, agreeL_none h]
      rfl
  · by_cases q : (i = j ∨ (hollowAt T i || hollowAt T j) = false) ∨ alikeR (rowAt T i) (rowAt T j) = false
    · rw [if_pos q] at nz
      exact absurd rfl nz
    · rw [if_neg q] at h nz
      have al : alikeR (rowAt T i) (rowAt T j) = true := by
        cases z : alikeR (rowAt T i) (rowAt T j) with
        | true => rfl
        | false => exact absurd (.inr z) q
      rw [e1, e2, mean_alike al o1 o2, agreeL_some h]
      show some ((rowAt T i).ofParts (kAt T) (ms.map (kAt T))) = some _
      rw [withParts_mean al o1 o2 nz h.len]
/-! ### how long it takes -/
mutual
def kcost : K → K → Nat
  | .list a, .list b => 3 + kcost a b
  | .record a, .record b => 3 + rcost a b
  | _, _ => 3
def rcost : KRow → KRow → Nat
  | .cons _ a r, .cons _ b s => kcost a b + rcost r s
  | _, _ => 0
end
def costL (f : Nat → K) (l : List (Nat × Nat)) : Nat := (l.map fun p => kcost (f p.1) (f p.2)).sum
theorem rcost_rows (f : Nat → K) : ∀ (ns ms : List Bytes) (ps qs : List Nat), ns.length = ps.length → ms.length = qs.length → rcost (rowOf ns (ps.map f)) (rowOf ms (qs.map f)) = costL f (ps.zip qs)
  | [], _, [], _, _, _ => by
    rw [List.zip_nil_left]
    show rcost .nil _ = 0
    cases rowOf _ _ <;> rfl
  | n :: ns, [], p :: ps, [], _, _ => rfl
  | n :: ns, m :: ms, p :: ps, q :: qs, h1, h2 => by
    have ih := rcost_rows f ns ms ps qs (by simpa using h1) (by simpa using h2)
    show kcost (f p) (f q) + rcost (rowOf ns (ps.map f)) (rowOf ms (qs.map f)) = _
    rw [ih]
    rfl
  | [], _, _ :: _, _, h, _ => by cases h
  | _ :: _, _, [], _, h, _ => by cases h
  | _ :: _, [], _ :: _, _ :: _, _, h => by cases h
  | _ :: _, _ :: _, _ :: _, [], _, h => by cases h
theorem kcost_ge (a b : K) : 3 ≤ kcost a b := by
  cases a <;> cases b <;> simp [kcost]
theorem cost_pairs {T : List Rw} (W : WF T) {i j : Nat} (hi : i < T.length) (hj : j < T.length) : 3 + costL (kAt T) (pairsIn T i j) ≤ kcost (kAt T i) (kAt T j) := by
  have o1 := W.ok i _ (rowAt_eq hi)
  have o2 := W.ok j _ (rowAt_eq hj)
  unfold pairsIn
  split
  · exact kcost_ge _ _
  · rename_i q
    have al : alikeR (rowAt T i) (rowAt T j) = true := by
      cases z : alikeR (rowAt T i) (rowAt T j) with
      | true => rfl
      | false => exact absurd (.inr z) q
    rw [kAt_mean W hi, kAt_mean W hj]
    revert al o1 o2
    generalize rowAt T i = r
    generalize rowAt T j = s
    intro o1 o2 al
    cases r with
    | nothing => exact kcost_ge _ _
    | plain k => exact kcost_ge _ _
    | sort a b => exact kcost_ge _ _
    | list p => cases s <;> first | cases al | skip
                rename_i q
                show 3 + costL (kAt T) [(p, q)] ≤ 3 + kcost (kAt T p) (kAt T q)
                unfold costL
                simp
    | record ns ps => cases s <;> first | cases al | skip
                      rename_i ms qs
                      show 3 + costL (kAt T) (ps.zip qs) ≤ 3 + rcost (rowOf ns (ps.map (kAt T))) (rowOf ms (qs.map (kAt T)))
                      rw [rcost_rows (kAt T) ns ms ps qs (o1.2 _ _ rfl) (o2.2 _ _ rfl)]
                      exact Nat.le_refl _
theorem pairs_lt {T : List Rw} (W : WF T) {i j : Nat} (hi : i < T.length) (hj : j < T.length) {p : Nat × Nat} (h : p ∈ pairsIn T i j) : p.1 < i ∧ p.2 < j := by
  unfold pairsIn at h
  split at h
  · cases h
  · obtain ⟨h1, h2⟩ := List.of_mem_zip (show (p.1, p.2) ∈ _ from h)
    exact ⟨(W.ok i _ (rowAt_eq hi)).1 _ h1, (W.ok j _ (rowAt_eq hj)).1 _ h2⟩
end Kt
end
section
set_option Elab.async false
set_option linter.all false
set_option maxRecDepth 100000
set_option maxHeartbeats 1000000
/-! Keys of a dict that are tuples of texts, ints and tuples of these. Written for spec 167. -/
namespace Nest
open PySem L2
/-- an item of such a key -/
abbrev IK := Sum Key (List Key)
section
variable {prog : Program} {w : World}
def IsI (prog : Program) (w : World) (h : Heap) (k : IK) (v : Value) : Prop := match k with
  | .inl x => (mixKind prog w).is x v = true
  | .inr l => ∃ b, v = .ref b ∧ IsTupleKey (mixKind prog w) h l b
inductive AreI (prog : Program) (w : World) (h : Heap) : List IK → List Value → Prop
  | nil : AreI prog w h [] []
  | cons {k : IK} {v : Value} {ks : List IK} {vs : List Value} (a : IsI prog w h k v) (r : AreI prog w h ks vs) : AreI prog w h (k :: ks) (v :: vs)
structure NestAt (prog : Program) (w : World) (h : Heap) (ks : List IK) (a : Addr) (o : Obj) (its : Array Value) (n : Nat) : Prop where
  at_ : h.get? a = some o
  ty : o.cls = .type "tuple"
  dat : o.data = .seq its n
  are : AreI prog w h ks its.toList
def IsNest (prog : Program) (w : World) (h : Heap) (ks : List IK) (a : Addr) : Prop := ∃ o its n, NestAt prog w h ks a o its n
theorem isI_inj {h : Heap} {x y : IK} {v : Value} (a : IsI prog w h x v) (b : IsI prog w h y v) : x = y := by
  cases x with
  | inl k => cases y with
    | inl l => exact congrArg Sum.inl ((mixKind prog w).inj _ _ _ a b)
    | inr l =>
      obtain ⟨c, rfl, _⟩ := b
      have := (mixKind prog w).byValue _ _ a
      cases this
  | inr k =>
    obtain ⟨c, rfl, q⟩ := a
    cases y with
    | inl l =>
      have := (mixKind prog w).byValue _ _ b
      cases this
    | inr l =>
      obtain ⟨d, e, q2⟩ := b
      injection e with e
      subst e
      exact congrArg Sum.inr (q.inj q2)
theorem areI_inj {h : Heap} : ∀ {x y : List IK} {vs : List Value}, AreI prog w h x vs → AreI prog w h y vs → x = y
  | _, _, _, .nil, .nil => rfl
  | _, _, _, .cons a r, .cons b q => by rw [isI_inj a b, areI_inj r q]
theorem nest_inj {h : Heap} {a : Addr} {x y : List IK} (hx : IsNest prog w h x a) (hy : IsNest prog w h y a) : x = y := by
  obtain ⟨o, its, n, X⟩ := hx
  obtain ⟨o2, its2, n2, Y⟩ := hy
  have e : o = o2 := Option.some.inj (X.at_.symm.trans Y.at_)
  subst e
  have e2 := X.dat.symm.trans Y.dat
  injection e2 with e3 _
  subst e3
  exact areI_inj X.are Y.are
theorem areI_keeps {h h' : Heap} (k : ∀ {l : List Key} {b : Addr}, IsTupleKey (mixKind prog w) h l b → IsTupleKey (mixKind prog w) h' l b) : ∀ {x : List IK} {vs : List Value}, AreI prog w h x vs → AreI prog w h' x vs
  | _, _, .nil => .nil
  | .inl x :: _, _, .cons a r => .cons (k := .inl x) a (areI_keeps k r)
  | .inr l :: _, _, .cons ⟨b, e, q⟩ r => .cons (k := .inr l) ⟨b, e, k q⟩ (areI_keeps k r)
theorem nest_type {s : Shared} {ks : List IK} {a : Addr} (x : IsNest prog w s.heap ks a) : s.TypeIs (.ref a) "tuple" := by
  obtain ⟨o, _, _, X⟩ := x
  exact ⟨o, X.at_, X.ty⟩
def hI (prog : Program) (w : World) : IK → Int
  | .inl k => (mixKind prog w).hash k
  | .inr l => tupleKeyHash (mixKind prog w) l
def dI : IK → Nat
  | .inl _ => 1
  | .inr l => l.length + 1
def drawsI (ks : List IK) : Nat := (ks.map dI).sum
def hashN (prog : Program) (w : World) (ks : List IK) : Int := reduceHash (Builtin.Tuple.tupleHashOf (ks.map (hI prog w)))
variable {A : Around} {E : Value → Shared → Prop}
theorem hash_item {s : Shared} {k : IK} {v : Value} {Q : Int → Shared → Prop} (hu : A.units < cLine) (a : IsI prog w s.heap k v) (h : Q (hI prog w k) { s with toks := s.toks + dI k }) : wpAny (model prog w) A (pyHash v) Q E s := by
  cases k with
  | inl k => exact (mixKind prog w).pyHash a h
  | inr l =>
    obtain ⟨b, rfl, q⟩ := a
    exact wpAny_pyHash_tuple hu q h
theorem hash_nest {s : Shared} {ks : List IK} {a : Addr} {Q : Int → Shared → Prop} (hu : A.units + 1 < cLine) (x : IsNest prog w s.heap ks a) (h : Q (hashN prog w ks) { s with toks := s.toks + (drawsI ks + 1) }) :
    wpAny (model prog w) A (pyHash (.ref a)) Q E s := by
  have T := nest_type x
  obtain ⟨o, its, n, X⟩ := x
  unfold pyHash pyHashByItsType
  refine wpAny_bind (wpAny_cRoomFor_or (.inr (Nat.lt_of_succ_lt hu)) (wpAny_bind (wpAny_specialOf T F.slot_tuple_hash.lookup ?_)))
  show wpAny _ _ (ite _ _ _) Q E s
  rw [if_neg (by rw [beq_builtin_none]; decide)]
  refine wpAny_bind (wpAny_specialOf T F.slot_tuple_hash.lookup (wpAny_bind (wpAny_callSpecialIfBoundUnlessNone?_slot T F.slot_tuple_hash (wpAny_call_entry F.slot_tuple_hash T F.entry_tuple_hash ?_ (F.args_tuple_hash_1 _)))))
  show wpAny _ _ ((Builtin.Tuple.tupleItemsOf (.ref a)) >>= _) _ _ _
  refine wpAny_bind (wpAny_tupleItemsOf X.at_ X.dat (wpAny_bind ?_))
  rw [← Array.forIn_toList]
  refine wpAny_forIn_list _
    (fun rest (b : Array Int) s2 => ∃ d l, ks = d ++ l ∧ AreI prog w s.heap l rest ∧ b.toList = d.map (hI prog w) ∧ s2 = { s with toks := s.toks + drawsI d })
    _ ?_ ?_ _ _ ⟨[], ks, rfl, X.are, rfl, rfl⟩
  · rintro x rest b s2 ⟨d, l, e, hl, hb, e2⟩
    subst e e2
    cases hl with
    | @cons k _ l2 _ h1 h2 =>
      refine wpAny_bind (hash_item (A := A.in1) (by exact hu) (by exact h1) ?_)
      have fin : ∃ d' l', d ++ k :: l2 = d' ++ l' ∧ AreI prog w s.heap l' rest ∧ (b.push (hI prog w k)).toList = d'.map (hI prog w) ∧ ({ s with toks := s.toks + drawsI d + dI k } : Shared) = { s with toks := s.toks + drawsI d' } :=
        ⟨d ++ [k], l2, by simp, h2, by simp [hb], by simp [drawsI, Nat.add_assoc]⟩
      first
        | exact wpAny_pure fin
        | exact wpAny_bind (wpAny_pure (wpAny_pure fin))
  · rintro b s2 ⟨d, l, e, hl, hb, e2⟩
    cases hl
    rw [List.append_nil] at e
    subst e e2
    show wpAny _ _ (retInt (Builtin.Tuple.tupleHashOf b.toList)) _ _ _
    rw [hb]
    refine wpAny_ret_mkInt ?_
    show wpAny _ _ (ite ((decide _ && decide _) = true) _ _) Q E _
    unfold hashN reduceHash at h
    rw [← Nat.add_assoc] at h
    split
    · rename_i g
      rw [if_pos g] at h
      exact wpAny_pure h
    · rename_i g
      rw [if_neg g] at h
      exact wpAny_bind (wpAny_rule (wpAny_pure h))
def flatI : IK → Bool
  | .inl _ => true
  | .inr _ => false
theorem eq_item {s : Shared} {j k : IK} {u v : Value} {Q : Bool → Shared → Prop} (hu : A.units < cLine) (a : IsI prog w s.heap j u) (b : IsI prog w s.heap k v) (hs : flatI j = flatI k)
    (h : Q (decide (j = k)) s) : wpAny (model prog w) A (eqBool u v) Q E s := by
  cases j with
  | inl x => cases k with
    | inl y => exact (mixKind prog w).eqBool a b (by
        have : decide (x = y) = decide ((Sum.inl x : IK) = Sum.inl y) := by simp
        rw [this]; exact h)
    | inr l => cases hs
  | inr l => cases k with
    | inl y => cases hs
    | inr m =>
      obtain ⟨c, rfl, q⟩ := a
      obtain ⟨d, rfl, q2⟩ := b
      exact wpAny_eqBool_tuple hu q q2 (by
        have : decide (l = m) = decide ((Sum.inr l : IK) = Sum.inr m) := by simp
        rw [this]; exact h)
theorem areI_len {h : Heap} : ∀ {x : List IK} {vs : List Value}, AreI prog w h x vs → x.length = vs.length
  | _, _, .nil => rfl
  | _, _, .cons _ r => congrArg (· + 1) (areI_len r)
theorem eq_tree {s : Shared} {x y : List IK} {a b : Addr} {P : Fin → Shared → Prop} (hu : A.units < cLine) (hx : IsNest prog w s.heap x a) (hy : IsNest prog w s.heap y b) (hs : x.map flatI = y.map flatI)
    (h : P (.done (.ret (.bool (decide (x = y))))) s) : wpAny (model prog w) A (Builtin.«tuple.__eq__» ⟨[.ref a, .ref b], []⟩) P E s := by
  have Tb := nest_type hy
  obtain ⟨oa, xs, na, X⟩ := hx
  obtain ⟨ob, ys, nb, Y⟩ := hy
  show wpAny _ _ ((isInstance (.ref b) (.type "tuple")) >>= _) _ _ _
  refine wpAny_bind (wpAny_isInstance Tb isSubtype_tuple_tuple ?_)
  dsimp only [Bool.not_true]
  rw [if_neg (by decide)]
  refine wpAny_bind (wpAny_tupleItemsOf X.at_ X.dat (wpAny_bind (wpAny_tupleItemsOf Y.at_ Y.dat (wpAny_bind ?_))))
  have len : xs.toList.length = ys.toList.length := by
    rw [← areI_len X.are, ← areI_len Y.are]
    have := congrArg List.length hs
    simpa using this
  refine wpAny_forIn_list _
    (fun rest r s2 => r.1 = none ∧ s2 = s ∧ ∃ x2 y2 us vs, rest = List.zip us vs ∧ AreI prog w s.heap x2 us ∧ AreI prog w s.heap y2 vs ∧ x2.map flatI = y2.map flatI ∧ decide (x2 = y2) = decide (x = y))
    _ ?_ ?_ _ _ ⟨rfl, rfl, x, y, xs.toList, ys.toList, rfl, X.are, Y.are, hs, rfl⟩
  · rintro ⟨u, v⟩ rest r s2 ⟨hr, e0, x2, y2, us, vs, hz, h1, h2, h3, h4⟩
    subst e0
    cases h1 with
    | nil => cases hz
    | @cons j _ x3 us3 a1 r1 =>
      cases h2 with
      | nil => cases hz
      | @cons k _ y3 vs3 a2 r2 =>
        rw [List.zip_cons_cons] at hz
        injection hz with hz1 hz2
        injection hz1 with e1 e2
        subst e1 e2 hz2
        rw [List.map_cons, List.map_cons] at h3
        injection h3 with h5 h6
        refine wpAny_bind (eq_item hu a1 a2 h5 ?_)
        by_cases e : j = k
        · subst e
          rw [decide_eq_true rfl, if_neg (show ¬ (!true) = true by decide)]
          refine wpAny_pure ⟨rfl, rfl, x3, y3, us3, vs3, rfl, r1, r2, h6, ?_⟩
          rw [← h4]
          simp
        · rw [decide_eq_false e]
          rw [if_pos (show (!false) = true from rfl)]
          have hf : decide (x = y) = false := by rw [← h4]; simp [e]
          rw [hf] at h
          exact wpAny_bind (wpAny_pure (wpAny_pure (wpAny_pure h)))
  · rintro ⟨r1, r2⟩ s2 ⟨hr, e0, x2, y2, us, vs, hz, h1, h2, h3, h4⟩
    dsimp only at hr
    subst hr e0
    refine wpAny_pure ?_
    have hl : us = [] ∨ vs = [] := by
      cases us with
      | nil => exact .inl rfl
      | cons => cases vs with
        | nil => exact .inr rfl
        | cons => cases hz
    have hxy : x2 = y2 := by
      rcases hl with e | e
      · subst e
        cases h1
        cases y2 with
        | nil => rfl
        | cons => cases h3
      · subst e
        cases h2
        cases x2 with
        | nil => rfl
        | cons => cases h3
    have hf : decide (x = y) = true := by rw [← h4]; exact decide_eq_true hxy
    rw [hf] at h
    have hsz : (xs.size == ys.size) = true := by
      rw [Array.length_toList, Array.length_toList] at len
      simp [len]
    show P (.done (.ret (.bool (xs.size == ys.size)))) _
    rw [hsz]
    exact h
theorem eq_nest {s : Shared} {x y : List IK} {a b : Addr} {Q : Bool → Shared → Prop} (hu : A.units + 1 < cLine) (hx : IsNest prog w s.heap x a) (hy : IsNest prog w s.heap y b) (hs : x.map flatI = y.map flatI) (h : Q (decide (x = y)) s) :
    wpAny (model prog w) A (eqBool (.ref a) (.ref b)) Q E s := by
  unfold eqBool
  try with_reducible refine wpAny_holding ?_
  by_cases q : a = b
  · subst q
    obtain rfl := nest_inj hx hy
    rw [if_pos (beq_self_eq_true _)]
    exact wpAny_bind (wpAny_rule (wpAny_pure (by rw [decide_eq_true rfl] at h; exact h)))
  · rw [if_neg (by intro z; exact q (by have := eq_of_beq z; injection this))]
    exact wpAny_bind (wpAny_richCompare_same_room (op := .Eq) (nest_type hx) (nest_type hy) F.slot_tuple_eq
      (wpAny_call_entry F.slot_tuple_eq (nest_type hx) F.entry_tuple_eq (eq_tree (A := A.in1) hu hx hy hs ⟨_, rfl, (fun e => nomatch e), wpAny_truthy_bool h⟩) (F.args_tuple_eq_2 _ _)) (Nat.lt_of_succ_lt hu))
theorem quiet_seq {s : Shared} {a : Addr} {o : Obj} {its : Array Value} {n m : Nat} {Q : Bool → Shared → Prop} (T : s.TypeIs (.ref a) "tuple") (ho : s.heap.get? a = some o) (hd : o.data = .seq its m)
    (hi : ∀ v ∈ its.toList, ∀ {R : Bool → Shared → Prop}, R true s → wpAny (model prog w) A (eqIsQuiet n v) R E s) (h : Q true s) : wpAny (model prog w) A (eqIsQuiet (n + 1) (.ref a)) Q E s := by
  unfold eqIsQuiet
  refine wpAny_bind (wpAny_specialOf T F.slot_tuple_eq.lookup ?_)
  show wpAny _ _ ((isInstance (.ref a) (.type "tuple")) >>= _) _ _ _
  refine wpAny_bind (wpAny_isInstance T isSubtype_tuple_tuple ?_)
  rw [if_neg (show ¬ (!true) = true by decide)]
  refine wpAny_bind (wpAny_seqItems ho hd (wpAny_bind ?_))
  show wpAny _ _ (forIn its _ _) _ _ _
  rw [← Array.forIn_toList]
  refine wpAny_forIn_list _ (fun rest r s2 => r.1 = none ∧ s2 = s ∧ ∀ v ∈ rest, v ∈ its.toList) _ ?_ ?_ _ _ ⟨rfl, rfl, fun _ q => q⟩
  · rintro v rest r s2 ⟨hr, e, al⟩
    subst e
    refine wpAny_bind (hi v (al v (by simp)) ?_)
    rw [if_neg (show ¬ (!true) = true by decide)]
    exact wpAny_pure ⟨rfl, rfl, fun u q => al u (by simp [q])⟩
  · rintro ⟨r1, r2⟩ s2 ⟨hr, e, _⟩
    dsimp only at hr
    subst hr e
    exact wpAny_pure h
theorem quiet_key {s : Shared} {l : List Key} {b : Addr} {n : Nat} {Q : Bool → Shared → Prop} (x : IsTupleKey (mixKind prog w) s.heap l b) (h : Q true s) : wpAny (model prog w) A (eqIsQuiet (n + 1) (.ref b)) Q E s := by
  have T := x.typeIs
  obtain ⟨o, its, m, h1, h2, h3, h4⟩ := x
  refine quiet_seq T h1 h3 (fun v hv R hR => ?_) h
  rw [eqIsQuiet_byValue _ (h4.byValue v hv)]
  exact wpAny_pure hR
theorem areI_mem {h : Heap} : ∀ {x : List IK} {vs : List Value} {v : Value}, AreI prog w h x vs → v ∈ vs → ∃ k, IsI prog w h k v
  | _, _, v, .cons (k := k) a r, q => by
    rcases List.mem_cons.mp q with e | e
    · subst e; exact ⟨k, a⟩
    · exact areI_mem r e
theorem quiet_nest {s : Shared} {ks : List IK} {a : Addr} {Q : Bool → Shared → Prop} (x : IsNest prog w s.heap ks a) (h : Q true s) : wpAny (model prog w) A (eqIsQuiet 8 (.ref a)) Q E s := by
  have T := nest_type x
  obtain ⟨o, its, m, X⟩ := x
  refine quiet_seq (n := 7) T X.at_ X.dat (fun v hv R hR => ?_) h
  obtain ⟨k, hk⟩ := areI_mem X.are hv
  cases k with
  | inl y =>
    rw [eqIsQuiet_byValue _ ((mixKind prog w).byValue _ _ hk)]
    exact wpAny_pure hR
  | inr l =>
    obtain ⟨b, rfl, q⟩ := hk
    exact quiet_key (n := 6) q hR
end
/-- a text or int, and two tuples of such -/
abbrev RK := Key × List Key × List Key
def ofRK (k : RK) : List IK := [.inl k.1, .inr k.2.1, .inr k.2.2]
theorem ofRK_inj {x y : RK} (h : ofRK x = ofRK y) : x = y := by
  obtain ⟨a, b, c⟩ := x
  obtain ⟨d, e, f⟩ := y
  unfold ofRK at h
  injection h with h1 h
  injection h with h2 h
  injection h with h3 h
  injection h1 with h1
  injection h2 with h2
  injection h3 with h3
  exact Prod.ext h1 (Prod.ext h2 h3)
theorem isTup_but {prog : Program} {w : World} {h h' : Heap} {l : List Key} {b d : Addr} {o : Obj} {es ep} (x : IsTupleKey (mixKind prog w) h l b) (ho : h.get? d = some o) (hd : o.data = .dict es ep) (hs : Heap.SameBut d h h') : IsTupleKey (mixKind prog w) h' l b := x.keeps ho hd hs
def rowKind (prog : Program) (w : World) : HeapKind prog w RK where
  is := fun h k a => IsNest prog w h (ofRK k) a
  hash := fun k => hashN prog w (ofRK k)
  draws := fun k => drawsI (ofRK k) + 1
  room := fun A => A.units + 1 < cLine
  inj := fun hx hy => ofRK_inj (nest_inj hx hy)
  keeps := fun {h h' k a d o es ep} x ho hd hs => by
    obtain ⟨ob, its, n, X⟩ := x
    have hne : a ≠ d := by
      intro e
      subst e
      have e2 : ob = o := Option.some.inj (X.at_.symm.trans ho)
      have e3 := X.dat
      rw [e2, hd] at e3
      cases e3
    exact ⟨ob, its, n, (hs.2 a hne).trans X.at_, X.ty, X.dat, areI_keeps (fun q => isTup_but q ho hd hs) X.are⟩
  pyHash := fun hu hk h => hash_nest hu hk h
  eqBool := fun {A E s x y a b Q} hu hx hy h => eq_nest hu hx hy rfl (by
    have : decide (x = y) = decide (ofRK x = ofRK y) := by
      by_cases e : x = y
      · subst e; simp
      · have : ¬ ofRK x = ofRK y := fun q => e (ofRK_inj q)
        simp [e, this]
    rw [← this]; exact h)
  quiet := fun hk h => quiet_nest hk h
end Nest
end
section
set_option Elab.async false
set_option linter.all false
set_option maxRecDepth 100000
set_option maxHeartbeats 1000000
/-! A dict whose keys are tuples of a text or int and two tuples: {}, in, not in, d[k], d[k] = v. Written for spec 167. -/
namespace L2
open PySem PySem.Spec PyProof.Rows Nest
abbrev RKV := List (RK × Addr × V)
abbrev RRel : RKV → List (RK × Addr × Value) → Prop := Paired fun p q => p.1 = q.1 ∧ p.2.1 = q.2.1 ∧ RelV p.2.2 q.2.2
/-- what stands at the dict's address -/
def RowE (P : Program) (w : World) (d : Addr) (kvs : RKV) (h : Heap) : Prop := kvs.length ≤ sizeLine ∧ (d == sysModules) = false ∧ ∃ xs, RRel kvs xs ∧
  ∃ o es ep, h.get? d = some o ∧ o.ExactDict ∧ o.data = .dict es ep ∧ es.toList = xs.map (entryOfKey (rowKind P w)) ∧ (xs.map (·.1)).Nodup
def rowHO (P : Program) (w : World) (d : Addr) (kvs : RKV) : HO := .ext (RowE P w d kvs)
/-- a key stands at a -/
def KeyAt (H : Hp) (a : Addr) (k : RK) : Prop := ∃ b c, H a = some (.tup [kV k.1, .ref b, .ref c]) ∧ H b = some (.tup (k.2.1.map kV)) ∧ H c = some (.tup (k.2.2.map kV))
def RowD (P : Program) (w : World) (H : Hp) (d : Addr) (kvs : RKV) : Prop := H d = some (rowHO P w d kvs) ∧ ∀ p ∈ kvs, KeyAt H p.2.1 p.1
def valR (kvs : RKV) (k : RK) : Option V := (kvs.find? fun x => decide (x.1 = k)).map (·.2.2)
section
variable {P : Program} {w : World} {H : Hp} {h : Heap} {d a : Addr} {kvs : RKV} {k : RK}
theorem rowE_ok (z : kvs.length ≤ sizeLine) (hd : (d == sysModules) = false) {xs : List (RK × Addr × Value)} (r : RRel kvs xs) (dd : h.DictOfH (rowKind P w) d xs) : ObjOk P w H h d (rowHO P w d kvs) := by
  obtain ⟨o, es, ep, h1, h2, h3, h4, _, h5⟩ := dd
  refine ⟨⟨z, hd, xs, r, o, es, ep, h1, h2, h3, h4, h5⟩, ⟨o, h1⟩, ?_⟩
  rintro g1 g2 ⟨z, hd, xs, r, o, es, ep, h1, h2, h3, h4, h5⟩ keep
  exact ⟨z, hd, xs, r, o, es, ep, keep _ h1, h2, h3, h4, h5⟩
theorem keyAt_is (ok : HOk P w H h) (e : KeyAt H a k) : (rowKind P w).is h k a := by
  obtain ⟨b, c, h1, h2, h3⟩ := e
  have k2 := key_of (ks := k.2.1) ok h2
  have k3 := key_of (ks := k.2.2) ok h3
  obtain ⟨_, its, r, o, g1, g2, n, g3⟩ := (show ObjOk P w H h a (.tup [kV k.1, .ref b, .ref c]) from ok a _ h1)
  obtain ⟨v, us, rfl, rv, r⟩ : ∃ v us, its = v :: us ∧ RelV (kV k.1) v ∧ Vals [V.ref b, V.ref c] us := by cases r with | cons x y => exact ⟨_, _, rfl, x, y⟩
  obtain ⟨vb, us, rfl, rb, r⟩ : ∃ v us', us = v :: us' ∧ RelV (V.ref b) v ∧ Vals [V.ref c] us' := by cases r with | cons x y => exact ⟨_, _, rfl, x, y⟩
  obtain ⟨vc, us, rfl, rc, r⟩ : ∃ v us', us = v :: us' ∧ RelV (V.ref c) v ∧ Vals [] us' := by cases r with | cons x y => exact ⟨_, _, rfl, x, y⟩
  cases r
  cases (show vb = Value.ref b from rb)
  cases (show vc = Value.ref c from rc)
  refine ⟨o, _, n, g1, g2, g3, ?_⟩
  exact .cons (k := .inl k.1) (kV_is rv) (.cons (k := .inr k.2.1) ⟨b, rfl, k2⟩ (.cons (k := .inr k.2.2) ⟨c, rfl, k3⟩ .nil))
theorem rrel_mem : ∀ {kvs : RKV} {xs : List (RK × Addr × Value)}, RRel kvs xs → ∀ x ∈ xs, ∃ p ∈ kvs, p.1 = x.1 ∧ p.2.1 = x.2.1
  | _, _, .cons (a := p) a r, x, hx => by
    rcases List.mem_cons.mp hx with e | e
    · subst e; exact ⟨p, by simp, a.1, a.2.1⟩
    · obtain ⟨q, hq, e⟩ := rrel_mem r x e
      exact ⟨q, by simp [hq], e⟩
theorem rrel_val {xs : List (RK × Addr × Value)} (r : RRel kvs xs) (k : RK) : RelO (valR kvs k) ((atKey xs k).map (·.2)) := by
  unfold valR atKey
  induction r with
  | nil => exact True.intro
  | @cons p q ps qs hq t ih =>
    obtain ⟨h1, h2, h3⟩ := hq
    rw [List.find?_cons, List.find?_cons]
    by_cases e : p.1 = k
    · rw [decide_eq_true e, decide_eq_true (h1.symm.trans e)]
      exact h3
    · rw [decide_eq_false e, decide_eq_false (fun z => e (h1.trans z))]
      exact ih
theorem row_rd (ok : HOk P w H h) (e : RowD P w H d kvs) : kvs.length ≤ sizeLine ∧ (d == sysModules) = false ∧ ∃ xs, RRel kvs xs ∧ h.DictOfH (rowKind P w) d xs := by
  obtain ⟨⟨z, hd, xs, r, o, es, ep, h1, h2, h3, h4, h5⟩, _⟩ := (show ObjOk P w H h d (rowHO P w d kvs) from ok d _ e.1)
  refine ⟨z, hd, xs, r, o, es, ep, h1, h2, h3, h4, fun x hx => ?_, h5⟩
  obtain ⟨p, hp, e1, e2⟩ := rrel_mem r x hx
  rw [← e1, ← e2]
  exact keyAt_is ok (e.2 p hp)
end
def tDNewR (P : Program) (w : World) : TE := fun _ H Q => ∀ p, H p = none → Q (.ref p) (upd H p (rowHO P w p []))
def tRIn (P : Program) (w : World) (neg : Bool) (ty td : TE) : TE := fun σ H Q => ty σ H fun y H1 => td σ H1 fun x H2 => ∃ a kvs b k, x = .ref a ∧ y = .ref b ∧ RowD P w H2 a kvs ∧ KeyAt H2 b k ∧ Q (.bl (Bool.xor neg (valR kvs k).isSome)) H2
def tRGet (P : Program) (w : World) (td ty : TE) : TE := fun σ H Q => td σ H fun x H1 => ty σ H1 fun y H2 => ∃ a kvs b k v, x = .ref a ∧ y = .ref b ∧ RowD P w H2 a kvs ∧ KeyAt H2 b k ∧ valR kvs k = some v ∧ Q v H2
/-- d[y] = v, where y is new -/
def sRPut (P : Program) (w : World) (td ty tv : TE) : TS := fun D σ H => tv σ H fun v H1 => td σ H1 fun x H2 => ty σ H2 fun y H3 => ∃ a kvs b k, x = .ref a ∧ y = .ref b ∧ RowD P w H3 a kvs ∧ KeyAt H3 b k ∧ valR kvs k = none ∧ kvs.length < sizeLine ∧
  D.nx σ (upd H3 a (rowHO P w a (kvs ++ [(k, b, v)])))
section
variable {X : Cx} {o i value : Expr} {pos pos' : Pos} {td ty tv : TE}
theorem pe_dnewR : PE X (.Dict [] [] pos) (tDNewR X.prog X.w) := ⟨fun pins s σ H Q I h =>
  wpAny_Dict_empty ⟨.ref s.heap.objs.size, _, I.laid (a := s.heap.objs.size) (o := rowHO X.prog X.w s.heap.objs.size []) (t' := s.toks) (fun _ _ q => Heap.get?_push_of_some _ q) (Nat.le_refl _)
    (rowE_ok (Nat.zero_le _) (beq_eq_false_iff_ne.mpr (Ne.symm (Nat.ne_of_lt I.big))) .nil (Heap.DictOfH.new s.heap)), rfl, h _ (I.hok.fresh (Nat.le_refl _))⟩⟩
theorem pc_rin (hu : X.A.units + 2 < cLine) (hi : PE X i ty) (ho : PE X o td) : PC X .In i o (tRIn X.prog X.w false ty td) := by
  refine ⟨fun pins s σ H Q I h => ?_⟩
  refine thn (hi.run pins s σ H _ I h) fun iv s1 ⟨y, H1, I1, ry, q1⟩ => thn (ho.run pins s1 σ H1 _ I1 q1) fun u s2 ⟨x, H2, I2, rx, a, kvs, b, k, ex, ey, g, gk, q2⟩ => ?_
  subst ex ey
  obtain rfl : u = Value.ref a := rx
  obtain rfl : iv = Value.ref b := ry
  obtain ⟨z, hd, xs, r, dd⟩ := row_rd I2.hok g
  refine wpAny_in_heap (knd := rowKind X.prog X.w) (by exact hu) (keyAt_is I2.hok gk) hd dd ?_
  have q := (rrel_val r k).isSome_eq
  rw [Option.isSome_map] at q
  exact ⟨.bl (Bool.xor false (valR kvs k).isSome), H2, I2.tok _, by rw [← q, Bool.false_xor]; rfl, q2⟩
theorem pc_rnotin (hu : X.A.units + 2 < cLine) (hi : PE X i ty) (ho : PE X o td) : PC X .NotIn i o (tRIn X.prog X.w true ty td) := by
  refine ⟨fun pins s σ H Q I h => ?_⟩
  refine thn (hi.run pins s σ H _ I h) fun iv s1 ⟨y, H1, I1, ry, q1⟩ => thn (ho.run pins s1 σ H1 _ I1 q1) fun u s2 ⟨x, H2, I2, rx, a, kvs, b, k, ex, ey, g, gk, q2⟩ => ?_
  subst ex ey
  obtain rfl : u = Value.ref a := rx
  obtain rfl : iv = Value.ref b := ry
  obtain ⟨z, hd, xs, r, dd⟩ := row_rd I2.hok g
  refine wpAny_notIn_heap (knd := rowKind X.prog X.w) (by exact hu) (keyAt_is I2.hok gk) hd dd ?_
  have q := (rrel_val r k).isSome_eq
  rw [Option.isSome_map] at q
  exact ⟨.bl (Bool.xor true (valR kvs k).isSome), H2, I2.tok _, by rw [← q, Bool.true_xor]; rfl, q2⟩
theorem row_type {pins : List (Addr × Obj)} {σ : St} {H : Hp} {s : Shared} {a : Addr} {kvs : RKV} (I : Inv X pins σ H s) (g : RowD X.prog X.w H a kvs) : s.TypeIs (.ref a) "dict" := by
  obtain ⟨_, _, xs, _, dd⟩ := row_rd I.hok g
  exact dd.typeIs
theorem pe_rget (hu : X.A.units + 2 < cLine) (ho : PE X o td) (hi : PE X i ty) (hs : NoSl i) : PE X (.Subscript o i pos) (tRGet X.prog X.w td ty) := by
  refine ⟨fun pins s σ H Q I h => ?_⟩
  refine subD_of PySem.F.slot_dict_getitem.lookup hs (thn (ho.run pins s σ H _ I h) fun u s1 ⟨x, H1, I1, rx, q1⟩ => thn (hi.run pins s1 σ H1 _ I1 q1) fun iv s2 ⟨y, H2, I2, ry, a, kvs, b, k, v, ex, ey, g, gk, gv, q2⟩ => ?_)
  subst ex ey
  obtain rfl : u = Value.ref a := rx
  obtain rfl : iv = Value.ref b := ry
  refine ⟨row_type I2 g, ?_⟩
  obtain ⟨z, hd, xs, r, dd⟩ := row_rd I2.hok g
  obtain ⟨w', hw, rw'⟩ := RelO.some_of (v := v) (o := (atKey xs k).map (·.2)) (by rw [← gv]; exact rrel_val r k)
  obtain ⟨p, hp, hp2⟩ := Option.map_eq_some_iff.mp hw
  refine wpAny_getItem_heap (knd := rowKind X.prog X.w) (by exact hu) (keyAt_is I2.hok gk) dd hp ?_
  rw [hp2]
  exact ⟨v, H2, I2.tok _, rw', q2⟩
theorem ps_rput (hu : X.A.units + 2 < cLine) (ho : PE X o td) (hi : PE X i ty) (hv : PE X value tv) (hs : swapsWith value (some (.Subscript o i pos')) pos.line X.env = pure false) :
    PS X (.Assign [.Subscript o i pos'] value pos) (sRPut X.prog X.w td ty tv) := by
  refine ⟨fun pins s σ H D I h => ?_⟩
  refine wpAny_Assign_Subscript (thn (hv.run pins s σ H _ I h) fun r s1 ⟨v, H1, I1, rv, q1⟩ => thn (ho.run pins s1 σ H1 _ I1 q1) fun u s2 ⟨x, H2, I2, rx, q2⟩ => thn (hi.run pins s2 σ H2 _ I2 q2) fun iv s3 ⟨y, H3, I3, ry, a, kvs, b, k, ex, ey, g, gk, gn, gl, q3⟩ => ?_) hs
  subst ex ey
  obtain rfl : u = Value.ref a := rx
  obtain rfl : iv = Value.ref b := ry
  obtain ⟨z, hd, xs, rr, dd⟩ := row_rd I3.hok g
  have hz : xs.length ≤ sizeLine := by rw [← Paired.length rr]; exact z
  have hn : atKey xs k = none := by
    have q := (rrel_val rr k).isSome_eq
    rw [gn, Option.isSome_map] at q
    cases e : atKey xs k with
    | none => rfl
    | some _ => rw [e] at q; cases q
  refine wpAny_setItem_heap (hsz := hz) (knd := rowKind X.prog X.w) (by exact hu) (keyAt_is I3.hok gk) dd fun h' dd' hs' => ?_
  rw [storedH_new hn] at dd'
  have he : ∃ q, h'.get? a = some q := let ⟨q, _, _, hq, _⟩ := dd'; ⟨q, hq⟩
  refine ⟨σ, _, d_write I3 (by rw [g.1]; exact True.intro) hs' he (rowE_ok ?_ hd (Paired.snoc rr ⟨rfl, rfl, rv⟩) dd'), q3⟩
  rw [List.length_append]
  show kvs.length + 1 ≤ sizeLine
  omega
end
end L2
end
section
set_option Elab.async false
set_option linter.all false
set_option maxRecDepth 100000
set_option maxHeartbeats 1000000
/-! list(zip(t, u)) of two tuples. Written for spec 167. -/
namespace LZ
open PySem RZ
section
variable {prog : Program} {w : World} {A : Around} {E : Value → Shared → Prop} {s : Shared} {z TI TO i1 i2 l1 l2 Lx : Addr} {xs ys : Array Value} {x y : Value} {k : Nat}
theorem heldT_item {T : Addr} {f : Bool} {oT : Obj} {k1 k2 : Nat} {Q : Value → Shared → Prop} (D : ZipApart z TI TO i1 i2 l1 l2) (hz : IsZipHeld s.heap z TI TO T f) (hT : s.heap.get? T = some oT) (hTI : IsPair s.heap TI (.ref i1) (.ref i2))
    (h1 : s.heap.IsTupleIter i1 l1 k1) (h2 : s.heap.IsTupleIter i2 l2 k2) (t1 : s.heap.IsTuple l1 xs) (t2 : s.heap.IsTuple l2 ys) (hx : xs[k1]? = some x) (hy : ys[k2]? = some y)
    (onNone : ∀ hn, IsZipHeld hn z TI TO T true → hn.IsTupleIter i1 l1 (k1 + 1) → hn.IsTupleIter i2 l2 (k2 + 1) → IsPair hn s.heap.objs.size x y → hn.objs.size = s.heap.objs.size + 1 → (∀ c o, c ≠ z → c ≠ i1 → c ≠ i2 → s.heap.get? c = some o → hn.get? c = some o) → Q (.ref s.heap.objs.size) { s with heap := hn }) :
    wpAny (model prog w) A (Builtin.«zip.__next__» ⟨[.ref z], []⟩) (fun fin s2 => ∃ v, fin = .done (.ret v) ∧ Q v s2) E s := by
  show wpAny _ _ ((field (.ref z) 2) >>= _) _ _ s
  refine wpAny_bind (wpAny_field hz rfl (x := .bool false) rfl (show wpAny _ _ ((field (.ref z) 3) >>= _) _ _ s from wpAny_bind (wpAny_field hz rfl (x := .ref TI) rfl (wpAny_bind (wpAny_seqItems hTI rfl ?_)))))
  show wpAny _ _ ((Builtin.SmallTypes.ownedTupleIsFree (.ref z)) >>= _) _ _ s
  refine wpAny_bind (wpAny_tupleHeld_zip hz hT fun g1 z1 s1 => ?_)
  rw [if_neg (by decide)]
  refine wpAny_bind ?_
  rw [← Array.forIn_toList]
  simp only [List.forIn_nil, List.forIn_cons]
  refine wpAny_bind (wpAny_bind (wpAny_holding (show wpAny _ _ ((Builtin.SmallTypes.nextOf (.ref i1)) >>= _) _ _ _ from wpAny_bind (nextOf_tuple_item (s := { s with heap := g1 }) (h1.extBut s1.extBut D.i1z) (t1.extBut s1.extBut D.l1z) hx fun g2 a2 s2 => wpAny_pure (wpAny_pure ?_)))))
  refine wpAny_bind (wpAny_bind (wpAny_holding (show wpAny _ _ ((Builtin.SmallTypes.nextOf (.ref i2)) >>= _) _ _ _ from wpAny_bind (nextOf_tuple_item (s := { s with heap := g2 }) ((h2.extBut s1.extBut D.i2z).extBut s2.extBut D.i12.symm) ((t2.extBut s1.extBut D.l2z).extBut s2.extBut D.l2i1) hy fun g3 a3 s3 => wpAny_pure (wpAny_pure (wpAny_pure ?_))))))
  show wpAny _ _ ((newTuple [x, y]) >>= _) _ _ _
  refine wpAny_bind (wpAny_newTuple (wpAny_pure ⟨_, rfl, ?_⟩))
  have sz : g3.objs.size = s.heap.objs.size := s3.1.trans (s2.1.trans s1.1)
  have kp : ∀ c o, c ≠ z → c ≠ i1 → c ≠ i2 → s.heap.get? c = some o → g3.get? c = some o := fun c o c1 c2 c3 e => s3.extBut _ _ c3 (s2.extBut _ _ c2 (s1.extBut _ _ c1 e))
  have z3 : IsZipHeld g3 z TI TO T true := s3.extBut _ _ (Ne.symm D.i2z) (s2.extBut _ _ (Ne.symm D.i1z) z1)
  have b3 : g3.IsTupleIter i1 l1 (k1 + 1) := a2.extBut s3.extBut D.i12
  have pr : IsPair (g3.push { cls := .type "tuple", data := .seq #[x, y] }) g3.objs.size x y := Heap.get?_push_size _ rfl
  have sz4 : (g3.push { cls := .type "tuple", data := .seq #[x, y] }).objs.size = g3.objs.size + 1 := Heap.size_push ..
  show Q (.ref g3.objs.size) _
  rw [sz] at pr sz4 ⊢
  exact onNone _ (Heap.get?_push_of_some _ z3) (b3.at fun o e => Heap.get?_push_of_some _ e) (a3.at fun o e => Heap.get?_push_of_some _ e) pr sz4 fun c o c1 c2 c3 e => Heap.get?_push_of_some _ (kp c o c1 c2 c3 e)
theorem heldT_end {T : Addr} {f : Bool} {oT : Obj} {k1 : Nat} {Q : Fin → Shared → Prop} (hh : A.handled = none) (D : ZipApart z TI TO i1 i2 l1 l2) (hz : IsZipHeld s.heap z TI TO T f) (hT : s.heap.get? T = some oT) (hTI : IsPair s.heap TI (.ref i1) (.ref i2))
    (h1 : s.heap.IsTupleIter i1 l1 k1) (t1 : s.heap.IsTuple l1 xs) (hx : xs[k1]? = none)
    (onEnd : ∀ hn e, (∀ c o, c ≠ z → c ≠ i1 → c ≠ i2 → s.heap.get? c = some o → hn.get? c = some o) → (∃ o, hn.get? e = some o ∧ o.cls = .type "StopIteration") → E (.ref e) { s with heap := hn }) :
    wpAny (model prog w) A (Builtin.«zip.__next__» ⟨[.ref z], []⟩) Q E s := by
  show wpAny _ _ ((field (.ref z) 2) >>= _) _ _ s
  refine wpAny_bind (wpAny_field hz rfl (x := .bool false) rfl (show wpAny _ _ ((field (.ref z) 3) >>= _) _ _ s from wpAny_bind (wpAny_field hz rfl (x := .ref TI) rfl (wpAny_bind (wpAny_seqItems hTI rfl ?_)))))
  show wpAny _ _ ((Builtin.SmallTypes.ownedTupleIsFree (.ref z)) >>= _) _ _ s
  refine wpAny_bind (wpAny_tupleHeld_zip hz hT fun g1 z1 s1 => ?_)
  rw [if_neg (by decide)]
  refine wpAny_bind ?_
  rw [← Array.forIn_toList]
  simp only [List.forIn_nil, List.forIn_cons]
  exact wpAny_bind (wpAny_bind (wpAny_holding (show wpAny _ _ ((Builtin.SmallTypes.nextOf (.ref i1)) >>= _) _ _ _ from wpAny_bind (nextOf_tuple_end (s := { s with heap := g1 }) hh (h1.extBut s1.extBut D.i1z) (t1.extBut s1.extBut D.l1z) hx fun g2 e s2 he =>
    onEnd g2 e (fun c o c1 c2 _ q => s2 _ _ c2 (s1.extBut _ _ c1 q)) he))))
/-- before turn k of the walk; Lx: the list that is made -/
structure ZS (h : Heap) (z TI TO i1 i2 l1 l2 Lx : Addr) (k : Nat) : Prop where
  pr : IsPair h TI (.ref i1) (.ref i2)
  a : h.IsTupleIter i1 l1 k
  b : h.IsTupleIter i2 l2 k
  st : (IsZip h z TI TO .none ∧ ∃ x y, IsPair h TO x y) ∨ ∃ T f oT, IsZipHeld h z TI TO T f ∧ h.get? T = some oT ∧ T ≠ z ∧ T ≠ i1 ∧ T ≠ i2 ∧ T ≠ Lx
theorem ZS.keep {h hn : Heap} (Z : ZS h z TI TO i1 i2 l1 l2 Lx k) (kp : ∀ b o, b ≠ Lx → h.get? b = some o → hn.get? b = some o) (n1 : z ≠ Lx) (n2 : TI ≠ Lx) (n3 : TO ≠ Lx) (n4 : i1 ≠ Lx) (n5 : i2 ≠ Lx) : ZS hn z TI TO i1 i2 l1 l2 Lx k := by
  obtain ⟨q1, q2, q3, q4⟩ := Z
  refine ⟨kp _ _ n2 q1, q2.at fun o e => kp _ _ n4 e, q3.at fun o e => kp _ _ n5 e, ?_⟩
  rcases q4 with ⟨g1, u, v, g2⟩ | ⟨T, f, oT, g1, g2, g3, g4, g5, g6⟩
  · exact .inl ⟨kp _ _ n1 g1, u, v, kp _ _ n3 g2⟩
  · exact .inr ⟨T, f, oT, kp _ _ n1 g1, kp _ _ g6 g2, g3, g4, g5, g6⟩
theorem zs_item {Q : Option Value → Shared → Prop} (D : ZipApart z TI TO i1 i2 l1 l2) (Z : ZS s.heap z TI TO i1 i2 l1 l2 Lx k) (hLx : Lx < s.heap.objs.size) (t1 : s.heap.IsTuple l1 xs) (t2 : s.heap.IsTuple l2 ys) (hx : xs[k]? = some x) (hy : ys[k]? = some y)
    (onNone : ∀ hn, ZS hn z TI TO i1 i2 l1 l2 Lx (k + 1) → IsPair hn s.heap.objs.size x y → hn.objs.size = s.heap.objs.size + 1 → (∀ c o, c ≠ z → c ≠ TO → c ≠ i1 → c ≠ i2 → s.heap.get? c = some o → hn.get? c = some o) → Q (some (.ref s.heap.objs.size)) { s with heap := hn }) :
    wpAny (model prog w) A (pyNext (.ref z)) Q E s := by
  obtain ⟨pr, a, b, st⟩ := Z
  have zl : ∀ {c : Addr} {o : Obj}, s.heap.get? c = some o → s.heap.objs.size ≠ c := fun e => Nat.ne_of_gt (Heap.lt_size e)
  obtain ⟨o1, e1, _⟩ := id a
  obtain ⟨o2, e2, _⟩ := id b
  rcases st with ⟨g1, u, v, g2⟩ | ⟨T, f, oT, g1, g2, g3, g4, g5, g6⟩
  · refine pyNext_zipT_item D g1 pr g2 a b t1 t2 hx hy fun hn q1 q2 q3 q4 q5 q6 q7 => onNone hn ⟨q7 _ _ D.TIz D.TITO D.TIi1 D.TIi2 pr, q3, q4, .inr ⟨_, false, _, q1, q5, zl g1, zl e1, zl e2, Nat.ne_of_gt hLx⟩⟩ q5 q6 q7
  · have Ty : s.TypeIs (.ref z) "zip" := ⟨_, g1, rfl⟩
    unfold pyNext
    refine wpAny_bind (wpAny_attempt (wpAny_callSpecial?_slot (name := Str.ofString "__next__") Ty F.slot_zip_next (wpAny_call_entry F.slot_zip_next Ty F.entry_zip_next (heldT_item D g1 g2 pr a b t1 t2 hx hy fun hn q1 q2 q3 q4 q5 q6 => wpAny_pure ?_) (F.args_zip_next_1 _))))
    exact onNone hn ⟨q6 _ _ D.TIz D.TIi1 D.TIi2 pr, q2, q3, .inr ⟨T, true, oT, q1, q6 _ _ g3 g4 g5 g2, g3, g4, g5, g6⟩⟩ q4 q5 fun c o c1 _ c3 c4 e => q6 c o c1 c3 c4 e
theorem zs_end {Q : Option Value → Shared → Prop} (hh : A.handled = none) (D : ZipApart z TI TO i1 i2 l1 l2) (Z : ZS s.heap z TI TO i1 i2 l1 l2 Lx k) (t1 : s.heap.IsTuple l1 xs) (t2 : s.heap.IsTuple l2 ys) (hx : xs[k]? = none)
    (onNone : ∀ hn, (∀ c o, c ≠ z → c ≠ TO → c ≠ i1 → c ≠ i2 → s.heap.get? c = some o → hn.get? c = some o) → Q none { s with heap := hn }) : wpAny (model prog w) A (pyNext (.ref z)) Q E s := by
  obtain ⟨pr, a, b, st⟩ := Z
  rcases st with ⟨g1, u, v, g2⟩ | ⟨T, f, oT, g1, g2, g3, g4, g5, g6⟩
  · exact pyNext_zipT_end hh D g1 pr g2 a b t1 t2 (.inl hx) onNone
  · have Ty : s.TypeIs (.ref z) "zip" := ⟨_, g1, rfl⟩
    unfold pyNext
    refine wpAny_bind (wpAny_attempt (wpAny_callSpecial?_slot (name := Str.ofString "__next__") Ty F.slot_zip_next (wpAny_call_entry F.slot_zip_next Ty F.entry_zip_next (heldT_end (A := A.in1) hh D g1 g2 pr a t1 hx fun hn e q1 q2 => ?_) (F.args_zip_next_1 _))))
    obtain ⟨o, ho, hc⟩ := q2
    exact wpAny_bind (wpAny_isInstance (T := "StopIteration") (b := true) ⟨o, ho, hc⟩ isSubtype_stop (wpAny_pure (onNone _ fun c o c1 _ c3 c4 e => q1 c o c1 c3 c4 e)))
/-- the pairs that are made stand -/
structure ZG (xs ys : Array Value) (lo : Addr) (h : Heap) (as : List Addr) : Prop where
  rise : as.Pairwise (· < ·)
  above : ∀ a ∈ as, lo < a
  prs : ∀ (j : Nat) (a : Addr), as[j]? = some a → ∃ x y, xs[j]? = some x ∧ ys[j]? = some y ∧ IsPair h a x y
theorem ZG.lt {lo : Addr} {h : Heap} {as : List Addr} (g : ZG xs ys lo h as) {a : Addr} (ha : a ∈ as) : a < h.objs.size := by
  obtain ⟨j, jAt⟩ := List.mem_iff_getElem?.mp ha
  obtain ⟨_, _, _, _, e⟩ := g.prs j a jAt
  exact Heap.lt_size e
theorem ZG.keep {lo : Addr} {h hn : Heap} {as : List Addr} (g : ZG xs ys lo h as) (kp : ∀ b o, lo < b → h.get? b = some o → hn.get? b = some o) : ZG xs ys lo hn as :=
  ⟨g.rise, g.above, fun j a jAt => by
    obtain ⟨x, y, e1, e2, e3⟩ := g.prs j a jAt
    exact ⟨x, y, e1, e2, kp _ _ (g.above a (List.mem_of_getElem? jAt)) e3⟩⟩
theorem ZG.snoc {lo : Addr} {h : Heap} {as : List Addr} (g : ZG xs ys lo h as) {b : Addr} (hb : lo < b) (hr : ∀ a ∈ as, a < b) (hx : xs[as.length]? = some x) (hy : ys[as.length]? = some y) (hp : IsPair h b x y) : ZG xs ys lo h (as ++ [b]) := by
  refine ⟨List.pairwise_append.mpr ⟨g.rise, List.pairwise_singleton _ _, fun a ha c hc => ?_⟩, fun a ha => ?_, fun j a jAt => ?_⟩
  · have : c = b := by simpa using hc
    subst this
    exact hr a ha
  · rcases List.mem_append.mp ha with q | q
    · exact g.above a q
    · have : a = b := by simpa using q
      subst this
      exact hb
  · by_cases q : j < as.length
    · rw [List.getElem?_append_left q] at jAt
      exact g.prs j a jAt
    · by_cases q2 : j = as.length
      · subst q2
        have : b = a := by simpa using jAt
        subst this
        exact ⟨x, y, hx, hy, hp⟩
      · have hn : (as ++ [b])[j]? = none := List.getElem?_eq_none (by rw [List.length_append, List.length_singleton]; omega)
        rw [hn] at jAt
        cases jAt
end
section
variable {prog : Program} {w : World} {A : Around} {E : Value → Shared → Prop} {s : Shared} {z TI TO i1 i2 l1 l2 Lx : Addr} {xs ys : Array Value} {R : Result → Shared → Prop}
structure ZApart (z TI TO i1 i2 l1 l2 Lx lo : Addr) : Prop where
  D : ZipApart z TI TO i1 i2 l1 l2
  nz : z ≠ Lx
  nTI : TI ≠ Lx
  nTO : TO ≠ Lx
  n1 : i1 ≠ Lx
  n2 : i2 ≠ Lx
  m1 : l1 ≠ Lx
  m2 : l2 ≠ Lx
  SL : Lx ≤ lo
  zL : z ≤ lo
  TOL : TO ≤ lo
  i1L : i1 ≤ lo
  i2L : i2 ≤ lo
theorem lz_loop {lo : Addr} (hh : A.handled = none) (X : ZApart z TI TO i1 i2 l1 l2 Lx lo) (hn : xs.size ≤ sizeLine) (he : xs.size = ys.size) (res : Value) {h1 : Heap}
    (hR : ∀ hn tk acc c as, (∀ b o, b ≠ Lx → b ≠ z → b ≠ TO → b ≠ i1 → b ≠ i2 → h1.get? b = some o → hn.get? b = some o) → hn.get? Lx = some { cls := .type "list", dict := none, data := .seq acc c, slots := #[] } → as.length = xs.size → ZG xs ys lo hn as → acc.toList = as.map Value.ref →
      R (.ok (.ret res)) { s with heap := hn, toks := tk }) :
    ∀ (k i : Nat) (h : Heap) (tk c : Nat) (acc : Array Value) (as : List Addr), xs.size - i = k → i ≤ xs.size → ZS h z TI TO i1 i2 l1 l2 Lx i → h.IsTuple l1 xs → h.IsTuple l2 ys → (∀ b o, b ≠ Lx → b ≠ z → b ≠ TO → b ≠ i1 → b ≠ i2 → h1.get? b = some o → h.get? b = some o) →
      h.get? Lx = some { cls := .type "list", dict := none, data := .seq acc c, slots := #[] } → acc.toList = as.map Value.ref → as.length = i → ZG xs ys lo h as → lo < h.objs.size →
      codeAny (model prog w) A (.builtin "list.extend.loop" ⟨[.ref Lx, .ref z, res], []⟩) R { s with heap := h, toks := tk } := by
  have D := X.D
  intro k
  induction k with
  | zero =>
    intro i h tk c acc as hk hi Z t1 t2 hkp hLx hacc hal G hlo
    refine codeAny_builtin (PySem.F.entry_extend_loop) ?_
    rw [Around.under_plainId (PySem.F.plain_extend_loop) _]
    show wpAny _ A.in1 ((pyNext (.ref z)) >>= _) _ _ _
    refine wpAny_bind (zs_end (s := { s with heap := h, toks := tk }) (A := A.in1) (xs := xs) (ys := ys) hh D Z t1 t2 (Array.getElem?_eq_none (by omega)) fun hn q => ?_)
    exact wpAny_pure (hR hn tk acc c as (fun b o b1 b2 b3 b4 b5 e => q b o b2 b3 b4 b5 (hkp b o b1 b2 b3 b4 b5 e)) (q Lx _ (Ne.symm X.nz) (Ne.symm X.nTO) (Ne.symm X.n1) (Ne.symm X.n2) hLx) (by omega)
      (G.keep fun b o hb e => q b o (Nat.ne_of_gt (Nat.lt_of_le_of_lt X.zL hb)) (Nat.ne_of_gt (Nat.lt_of_le_of_lt X.TOL hb)) (Nat.ne_of_gt (Nat.lt_of_le_of_lt X.i1L hb)) (Nat.ne_of_gt (Nat.lt_of_le_of_lt X.i2L hb)) e) hacc)
  | succ k ih =>
    intro i h tk c acc as hk hi Z t1 t2 hkp hLx hacc hal G hlo
    have hlt : i < xs.size := by omega
    have hx : xs[i]? = some xs[i] := Array.getElem?_eq_getElem hlt
    have hy : ys[i]? = some (ys[i]'(by omega)) := Array.getElem?_eq_getElem (by omega)
    have accSz : acc.size = i := by rw [← Array.length_toList, hacc, List.length_map, hal]
    refine codeAny_builtin (PySem.F.entry_extend_loop) ?_
    rw [Around.under_plainId (PySem.F.plain_extend_loop) _]
    show wpAny _ A.in1 ((pyNext (.ref z)) >>= _) _ _ _
    have hLl : Lx < h.objs.size := Heap.lt_size hLx
    refine wpAny_bind (zs_item (s := { s with heap := h, toks := tk }) (Lx := Lx) D Z hLl t1 t2 hx hy fun hn Z' hp hs' q => ?_)
    dsimp only at hp hs' q ⊢
    have hS' := q Lx _ (Ne.symm X.nz) (Ne.symm X.nTO) (Ne.symm X.n1) (Ne.symm X.n2) hLx
    have up : ∀ b o, b ≠ Lx → hn.get? b = some o → (hn.update Lx (Obj.mapSeq (·.push (Value.ref h.objs.size)))).get? b = some o := fun b o hb e => (Heap.get?_update_other _ _ (Ne.symm hb)).trans e
    have keepHi : ∀ b o, lo < b → h.get? b = some o → (hn.update Lx (Obj.mapSeq (·.push (Value.ref h.objs.size)))).get? b = some o := fun b o hb e =>
      up b o (Nat.ne_of_gt (Nat.lt_of_le_of_lt X.SL hb)) (q b o (Nat.ne_of_gt (Nat.lt_of_le_of_lt X.zL hb)) (Nat.ne_of_gt (Nat.lt_of_le_of_lt X.TOL hb)) (Nat.ne_of_gt (Nat.lt_of_le_of_lt X.i1L hb)) (Nat.ne_of_gt (Nat.lt_of_le_of_lt X.i2L hb)) e)
    have hpn := up _ _ (Nat.ne_of_gt hLl) hp
    have T1 : (hn.update Lx (Obj.mapSeq (·.push (Value.ref h.objs.size)))).IsTuple l1 xs := by
      obtain ⟨o, ho, r⟩ := t1
      exact ⟨o, up _ _ X.m1 (q _ _ D.l1z D.l1TO D.l1i1 D.l1i2 ho), r⟩
    have T2 : (hn.update Lx (Obj.mapSeq (·.push (Value.ref h.objs.size)))).IsTuple l2 ys := by
      obtain ⟨o, ho, r⟩ := t2
      exact ⟨o, up _ _ X.m2 (q _ _ D.l2z D.l2TO D.l2i1 D.l2i2 ho), r⟩
    show wpAny _ A.in1 ((updateSeq Lx (·.push (Value.ref h.objs.size))) >>= _) _ _ _
    refine wpAny_bind (wpAny_updateSeq hS' rfl (wpAny_pure ⟨plainId_quiet PySem.F.plain_extend_loop _, ih (i + 1) _ tk _ (acc.push (Value.ref h.objs.size)) (as ++ [h.objs.size]) (by omega) hlt (Z'.keep up X.nz X.nTI X.nTO X.n1 X.n2)
      T1 T2 (fun b o b1 b2 b3 b4 b5 e => up b o b1 (q b o b2 b3 b4 b5 (hkp b o b1 b2 b3 b4 b5 e))) (Heap.get?_update_self _ hS' rfl) (by rw [Array.toList_push, hacc, List.map_append]; rfl) (by rw [List.length_append, hal]; rfl)
      ((G.keep keepHi).snoc hlo (fun a ha => G.lt ha) (by rw [hal]; exact hx) (by rw [hal]; exact hy) hpn) (Nat.lt_trans hlo (Heap.lt_size hpn))⟩) (by rw [accSz]; omega) (by show (acc.push (Value.ref h.objs.size)).size ≤ sizeLine + 1; rw [Array.size_push, accSz]; omega))
theorem zip_len0 : typeLookup (.type "zip") "__len__" = pure none := by rw [typeLookup_type, builtinLookup_eq_fast]; kernel_rfl
theorem zip_hint0 : typeLookup (.type "zip") "__length_hint__" = pure none := by rw [typeLookup_type, builtinLookup_eq_fast]; kernel_rfl
theorem lz_extend {lo : Addr} (hh : A.handled = none) (X : ZApart z TI TO i1 i2 l1 l2 Lx lo) (hn : xs.size ≤ sizeLine) (he : xs.size = ys.size) (res : Value) (c₀ : Nat) (hz : IsZip s.heap z TI TO .none) (hp : IsPair s.heap TI (.ref i1) (.ref i2)) (ho : ∃ x y, IsPair s.heap TO x y)
    (h1 : s.heap.IsTupleIter i1 l1 0) (h2 : s.heap.IsTupleIter i2 l2 0) (t1 : s.heap.IsTuple l1 xs) (t2 : s.heap.IsTuple l2 ys) (hlo : lo < s.heap.objs.size) (hLx : s.heap.get? Lx = some { cls := .type "list", data := .seq #[] c₀ })
    (hR : ∀ hn tk acc c as, (∀ b o, b ≠ Lx → b ≠ z → b ≠ TO → b ≠ i1 → b ≠ i2 → s.heap.get? b = some o → hn.get? b = some o) → hn.get? Lx = some { cls := .type "list", dict := none, data := .seq acc c, slots := #[] } → as.length = xs.size → ZG xs ys lo hn as → acc.toList = as.map Value.ref →
      R (.ok (.ret res)) { s with heap := hn, toks := tk }) :
    wpAny (model prog w) A.in1 (Builtin.List.listExtendWith (.ref Lx) (.ref z) res)
      (fun fin s2 => match fin with | .done f => R (.ok f) s2 | .again c2 => c2.quiet = true ∧ codeAny (model prog w) A c2 R s2) (fun e s2 => R (.error e) s2) s := by
  have Ty : s.TypeIs (.ref z) "zip" := ⟨_, hz, rfl⟩
  unfold PySem.Builtin.List.listExtendWith
  refine wpAny_bind (wpAny_typeOf (T := "zip") Ty ?_)
  have e1 : Builtin.List.listSameRef (.ref Lx) (.ref z) = false := by simp [Builtin.List.listSameRef, Ne.symm X.nz]
  have e2 : (Value.type "zip" == Value.type "list") = false := by decide
  have e3 : (Value.type "zip" == Value.type "tuple") = false := by decide
  simp only [e1, e2, e3, Bool.or_self, Bool.false_eq_true, if_false]
  refine wpAny_bind (wpAny_pyIter_zip hz (wpAny_bind (wpAny_holding ?_)))
  unfold PySem.Builtin.List.listLengthHint
  refine wpAny_bind (wpAny_specialOf Ty zip_len0 ?_)
  show wpAny _ A.in1 ((specialOf (Value.ref z) (Str.ofString "__length_hint__")) >>= _) _ _ _
  refine wpAny_bind (wpAny_specialOf Ty zip_hint0 (wpAny_pure ?_))
  show wpAny _ A.in1 ((rule "list.extend.makes-room") >>= fun _ => (Builtin.List.listTouch (.ref Lx)) >>= fun _ => again (.builtin "list.extend.loop" ⟨[.ref Lx, .ref z, res], []⟩)) _ _ _
  refine wpAny_bind (wpAny_rule (wpAny_bind ?_))
  show wpAny _ A.in1 ((updateSeq Lx (·.push .none)) >>= fun _ => updateSeq Lx (·.pop)) _ _ _
  refine wpAny_bind (wpAny_updateSeq hLx rfl ?_)
  have hLx2 := Heap.get?_update_self (Obj.mapSeq (·.push Value.none)) hLx rfl
  refine wpAny_updateSeq (hz := by seq_fits) hLx2 rfl ?_
  have hS3 := Heap.get?_update_self (Obj.mapSeq (·.pop)) hLx2 rfl
  have oth : ∀ b o, b ≠ Lx → s.heap.get? b = some o → ((s.heap.update Lx (Obj.mapSeq (·.push Value.none))).update Lx (Obj.mapSeq (·.pop))).get? b = some o := fun b o hb e =>
    (Heap.get?_update_other _ _ (Ne.symm hb)).trans ((Heap.get?_update_other _ _ (Ne.symm hb)).trans e)
  have T1 : ((s.heap.update Lx (Obj.mapSeq (·.push Value.none))).update Lx (Obj.mapSeq (·.pop))).IsTuple l1 xs := by
    obtain ⟨o, ho, r⟩ := t1
    exact ⟨o, oth _ _ X.m1 ho, r⟩
  have T2 : ((s.heap.update Lx (Obj.mapSeq (·.push Value.none))).update Lx (Obj.mapSeq (·.pop))).IsTuple l2 ys := by
    obtain ⟨o, ho, r⟩ := t2
    exact ⟨o, oth _ _ X.m2 ho, r⟩
  have Z0 : ZS s.heap z TI TO i1 i2 l1 l2 Lx 0 := ⟨hp, h1, h2, .inl ⟨hz, ho⟩⟩
  refine wpAny_pure ⟨plainId_quiet PySem.F.plain_extend_loop _, lz_loop (h1 := s.heap) hh X hn he res (fun hn tk acc c as k1 k2 k3 k4 k5 => hR hn tk acc c as k1 k2 k3 k4 k5) xs.size 0 _ s.toks _ #[] [] (Nat.sub_zero _) (Nat.zero_le _)
    (Z0.keep oth X.nz X.nTI X.nTO X.n1 X.n2) T1 T2 (fun b o b1 _ _ _ _ e => oth b o b1 e) hS3 rfl rfl ⟨.nil, (fun _ ha => nomatch ha), fun j a jAt => by simp at jAt⟩ (by rw [Heap.size_update, Heap.size_update]; exact hlo)⟩
theorem lz_init {lo : Addr} (hh : A.handled = none) (X : ZApart z TI TO i1 i2 l1 l2 Lx lo) (hn : xs.size ≤ sizeLine) (he : xs.size = ys.size) (hz : IsZip s.heap z TI TO .none) (hp : IsPair s.heap TI (.ref i1) (.ref i2)) (ho : ∃ x y, IsPair s.heap TO x y)
    (h1 : s.heap.IsTupleIter i1 l1 0) (h2 : s.heap.IsTupleIter i2 l2 0) (t1 : s.heap.IsTuple l1 xs) (t2 : s.heap.IsTuple l2 ys) (hlo : lo < s.heap.objs.size) (hLx : s.heap.get? Lx = some { cls := .type "list", data := .seq #[] })
    (hR : ∀ hn tk acc c as, (∀ b o, b ≠ Lx → b ≠ z → b ≠ TO → b ≠ i1 → b ≠ i2 → s.heap.get? b = some o → hn.get? b = some o) → hn.get? Lx = some { cls := .type "list", dict := none, data := .seq acc c, slots := #[] } → as.length = xs.size → ZG xs ys lo hn as → acc.toList = as.map Value.ref →
      R (.ok (.ret .none)) { s with heap := hn, toks := tk }) :
    wpAny (model prog w) A.in1 (Builtin.«list.__init__» ⟨[.ref Lx, .ref z], []⟩)
      (fun fin s2 => match fin with | .done f => R (.ok f) s2 | .again c2 => c2.quiet = true ∧ codeAny (model prog w) A c2 R s2) (fun e s2 => R (.error e) s2) s := by
  show wpAny _ A.in1 (do let was ← Builtin.List.listItems (.ref Lx); Builtin.List.listUpdate (.ref Lx) (fun _ => #[]); letGo was.toList.reverse; Builtin.List.listExtendWith (.ref Lx) (.ref z) .none) _ _ s
  refine wpAny_bind ?_
  unfold Builtin.List.listItems
  refine wpAny_bind (wpAny_seqItems hLx rfl (wpAny_pure ?_))
  show wpAny _ A.in1 ((updateSeq Lx (fun _ => #[])) >>= fun _ => (letGo (#[] : Array Value).toList.reverse) >>= fun _ => Builtin.List.listExtendWith (.ref Lx) (.ref z) .none) _ _ s
  refine wpAny_bind (wpAny_updateSeq hLx rfl ?_)
  have hLx2 := Heap.get?_update_self (Obj.mapSeq (fun _ => (#[] : Array Value))) hLx rfl
  have oth : ∀ b o, b ≠ Lx → s.heap.get? b = some o → (s.heap.update Lx (Obj.mapSeq (fun _ => (#[] : Array Value)))).get? b = some o := fun b o hb e => (Heap.get?_update_other _ _ (Ne.symm hb)).trans e
  have T1 : (s.heap.update Lx (Obj.mapSeq (fun _ => (#[] : Array Value)))).IsTuple l1 xs := by
    obtain ⟨o, ho, r⟩ := t1
    exact ⟨o, oth _ _ X.m1 ho, r⟩
  have T2 : (s.heap.update Lx (Obj.mapSeq (fun _ => (#[] : Array Value)))).IsTuple l2 ys := by
    obtain ⟨o, ho, r⟩ := t2
    exact ⟨o, oth _ _ X.m2 ho, r⟩
  obtain ⟨u, v, ho⟩ := ho
  refine wpAny_bind (wpAny_letGo (lz_extend hh X hn he .none _ (oth _ _ X.nz hz) (oth _ _ X.nTI hp) ⟨u, v, oth _ _ X.nTO ho⟩ (h1.at fun o e => oth _ _ X.n1 e) (h2.at fun o e => oth _ _ X.n2 e) T1 T2 (by rw [Heap.size_update]; exact hlo) hLx2 fun hn tk acc c as k1 k2 k3 k4 k5 => ?_))
  exact hR hn tk acc c as (fun b o b1 b2 b3 b4 b5 e => k1 b o b1 b2 b3 b4 b5 (oth b o b1 e)) k2 k3 k4 k5
theorem lz_call {Q : Value → Shared → Prop} (hh : A.handled = none) (D : ZipApart z TI TO i1 i2 l1 l2) (hn : xs.size ≤ sizeLine) (he : xs.size = ys.size) (hz : IsZip s.heap z TI TO .none) (hp : IsPair s.heap TI (.ref i1) (.ref i2)) (ho : ∃ x y, IsPair s.heap TO x y)
    (h1 : s.heap.IsTupleIter i1 l1 0) (h2 : s.heap.IsTupleIter i2 l2 0) (t1 : s.heap.IsTuple l1 xs) (t2 : s.heap.IsTuple l2 ys)
    (onNone : ∀ hn tk acc c as, (∀ b o, b ≠ z → b ≠ TO → b ≠ i1 → b ≠ i2 → s.heap.get? b = some o → hn.get? b = some o) → hn.get? s.heap.objs.size = some { cls := .type "list", dict := none, data := .seq acc c, slots := #[] } → as.length = xs.size → ZG xs ys s.heap.objs.size hn as → acc.toList = as.map Value.ref →
      Q (.ref s.heap.objs.size) { s with heap := hn, toks := tk }) :
    wpAny (model prog w) A (call (.type "list") [.ref z]) Q E s := by
  refine callType_codes (Q₁ := fun obj s₁ => obj = .ref s.heap.objs.size ∧ s₁ = { s with heap := s.heap.push { cls := .type "list", data := .seq #[] } }) PySem.F.called_list (PySem.F.typeCall_list_1 _) PySem.F.entry_list_init (code_list_new _ ⟨rfl, rfl⟩) fun obj s1 qAt => ?_
  obtain ⟨rfl, rfl⟩ := qAt
  have hLx : (s.heap.push { cls := .type "list", data := .seq #[] }).get? s.heap.objs.size = some { cls := .type "list", data := .seq #[] } := Heap.get?_push_size _ rfl
  have up : ∀ b o, s.heap.get? b = some o → (s.heap.push { cls := .type "list", data := .seq #[] }).get? b = some o := fun b o e => Heap.get?_push_of_some _ e
  have lt : ∀ {b : Addr} {o : Obj}, s.heap.get? b = some o → b ≠ s.heap.objs.size ∧ b ≤ s.heap.objs.size := fun e => ⟨Nat.ne_of_lt (Heap.lt_size e), Nat.le_of_lt (Heap.lt_size e)⟩
  obtain ⟨u, v, ho⟩ := ho
  obtain ⟨o1, g1, _⟩ := id h1
  obtain ⟨o2, g2, _⟩ := id h2
  obtain ⟨o3, g3, _⟩ := id t1
  obtain ⟨o4, g4, _⟩ := id t2
  have X : ZApart z TI TO i1 i2 l1 l2 s.heap.objs.size s.heap.objs.size := ⟨D, (lt hz).1, (lt hp).1, (lt ho).1, (lt g1).1, (lt g2).1, (lt g3).1, (lt g4).1, Nat.le_refl _, (lt hz).2, (lt ho).2, (lt g1).2, (lt g2).2⟩
  have T1 : (s.heap.push { cls := .type "list", data := .seq #[] }).IsTuple l1 xs := by
    obtain ⟨o, ho, r⟩ := t1
    exact ⟨o, up _ _ ho, r⟩
  have T2 : (s.heap.push { cls := .type "list", data := .seq #[] }).IsTuple l2 ys := by
    obtain ⟨o, ho, r⟩ := t2
    exact ⟨o, up _ _ ho, r⟩
  refine ⟨⟨_, hLx, rfl⟩, PySem.F.args_list_init_2 _ _, lz_init (A := A.in1) hh X hn he (up _ _ hz) (up _ _ hp) ⟨u, v, up _ _ ho⟩ (h1.at fun o e => up _ _ e) (h2.at fun o e => up _ _ e) T1 T2 (by rw [Heap.size_push]; exact Nat.lt_succ_self _) hLx fun hn tk acc c as k1 k2 k3 k4 k5 => ?_⟩
  exact ⟨rfl, onNone hn tk acc c as (fun b o b2 b3 b4 b5 e => k1 b o (lt e).1 b2 b3 b4 b5 (up _ _ e)) k2 k3 k4 k5⟩
end
end LZ
end
section
set_option Elab.async false
set_option linter.all false
set_option maxRecDepth 100000
set_option maxHeartbeats 1000000
namespace LZ
open PySem PySem.Spec PyProof.Rows L2 RZ
/-- pairs tracked as tuples at their addresses -/
def putP (H : Hp) (z : List (Addr × V × V)) : Hp := fun b => match z.lookup b with
  | some p => some (.tup [p.1, p.2])
  | none => H b
theorem lookup_at : ∀ {z : List (Addr × V × V)}, (z.map Prod.fst).Nodup → ∀ {a : Addr} {p : V × V}, (a, p) ∈ z → z.lookup a = some p
  | (b, q) :: z, nd, a, p, h => by
    rw [List.map_cons, List.nodup_cons] at nd
    rcases List.mem_cons.mp h with e | e
    · injection e with e1 e2
      subst e1 e2
      rw [List.lookup_cons, beq_self_eq_true]
    · have ne : a ≠ b := fun w => nd.1 (List.mem_map.mpr ⟨(a, p), e, w⟩)
      have : (a == b) = false := by simpa using ne
      rw [List.lookup_cons, this]
      exact lookup_at nd.2 e
theorem lookup_off {z : List (Addr × V × V)} {b : Addr} (h : b ∉ z.map Prod.fst) : z.lookup b = none := by
  induction z with
  | nil => rfl
  | cons q z ih =>
    rw [List.map_cons, List.mem_cons, not_or] at h
    have : (b == q.1) = false := by simpa using h.1
    obtain ⟨c, p⟩ := q
    rw [List.lookup_cons]
    rw [this]
    exact ih h.2
theorem refs_vals : ∀ as : List Addr, Vals (as.map V.ref) (as.map Value.ref)
  | [] => .nil
  | a :: as => .cons (show Value.ref a = Value.ref a from rfl) (refs_vals as)
/-- addresses, and what stands there as pairs -/
abbrev PairsAt (H : Hp) (z : List (Addr × V × V)) : Prop := ∀ q ∈ z, H q.1 = some (.tup [q.2.1, q.2.2])
section
variable {X : Cx}
theorem laid_pairs {pins : List (Addr × Obj)} {σ : L2.St} {H : Hp} {s : Shared} {h' : Heap} {tk : Nat} {S : Addr} {acc : Array Value} {c : Nat} {z : List (Addr × V × V)} (I : Inv X pins σ H s) (hk : ∀ b o, s.heap.get? b = some o → h'.get? b = some o) (hS0 : s.heap.objs.size ≤ S)
    (hS : h'.get? S = some { cls := .type "list", dict := none, data := .seq acc c, slots := #[] }) (hab : ∀ q ∈ z, S < q.1) (nd : (z.map Prod.fst).Nodup) (hz : z.length ≤ sizeLine) (hacc : acc.toList = (z.map Prod.fst).map Value.ref)
    (hp : ∀ q ∈ z, ∃ x y, IsPair h' q.1 x y ∧ RelV q.2.1 x ∧ RelV q.2.2 y) :
    ∃ H' : Hp, (∀ b o, H b = some o → H' b = some o) ∧ H S = none ∧ (∀ q ∈ z, H q.1 = none) ∧ H' S = some (.lst ((z.map Prod.fst).map V.ref)) ∧ PairsAt H' z ∧ Inv X pins σ H' { s with heap := h', toks := tk } := by
  have newS : H S = none := I.hok.fresh hS0
  have new : ∀ q ∈ z, H q.1 = none := fun q hq => I.hok.fresh (Nat.le_of_lt (Nat.lt_of_le_of_lt hS0 (hab q hq)))
  have offS : S ∉ z.map Prod.fst := fun q => by
    obtain ⟨p, h1, h2⟩ := List.mem_map.mp q
    have := hab p h1
    rw [h2] at this
    exact Nat.lt_irrefl _ this
  have kp : ∀ b u, H b = some u → putP (upd H S (.lst ((z.map Prod.fst).map V.ref))) z b = some u := fun b u e => by
    have hb : b ∉ z.map Prod.fst := fun q => by
      obtain ⟨p, h1, h2⟩ := List.mem_map.mp q
      rw [← h2, new p h1] at e
      cases e
    unfold putP
    rw [lookup_off hb]
    exact (upd_ne (fun w => by rw [w, newS] at e; cases e)).trans e
  have atS : putP (upd H S (.lst ((z.map Prod.fst).map V.ref))) z S = some (.lst ((z.map Prod.fst).map V.ref)) := by
    unfold putP
    rw [lookup_off offS]
    exact upd_same
  have atP : PairsAt (putP (upd H S (.lst ((z.map Prod.fst).map V.ref))) z) z := fun q hq => by
    unfold putP
    rw [lookup_at nd (a := q.1) (p := q.2) hq]
  have low : ∀ b o, s.heap.get? b = some o → b ∉ z.map Prod.fst ∧ b ≠ S := fun b o e => by
    have hb := Heap.lt_size e
    refine ⟨fun q => ?_, Nat.ne_of_lt (Nat.lt_of_lt_of_le hb hS0)⟩
    obtain ⟨p, h1, h2⟩ := List.mem_map.mp q
    have g := Nat.lt_of_lt_of_le hb (Nat.le_of_lt (Nat.lt_of_le_of_lt hS0 (hab p h1)))
    rw [h2] at g
    exact Nat.lt_irrefl _ g
  have frr : ∀ b o, s.heap.get? b = some o → H b = none → putP (upd H S (.lst ((z.map Prod.fst).map V.ref))) z b = none := fun b o e n => by
    obtain ⟨g1, g2⟩ := low b o e
    unfold putP
    rw [lookup_off g1]
    exact (upd_ne g2).trans n
  have U : Un (frs X.stack) [] H (putP (upd H S (.lst ((z.map Prod.fst).map V.ref))) z) s.heap h' :=
    { keep := fun b o q _ _ _ => hk b o q, slot := fun b o q _ _ _ => ⟨o.slots, hk b o q⟩, free := fun b o q n _ => frr b o q n, there := fun b o q _ => ⟨o, hk b o q⟩, tups := fun b v q => kp b _ q, frzs := fun b o u q => kp b _ q, tbls := fun b ps q => ⟨#[], by rw [kp b _ q]; simp⟩ }
  refine ⟨_, kp, newS, new, atS, atP, I.call' (ch := []) rfl U (fun b u q => ?_) I.bare fun b w => by simp at w⟩
  by_cases hb : b ∈ z.map Prod.fst
  · obtain ⟨p, h1, h2⟩ := List.mem_map.mp hb
    have g := atP p h1
    rw [h2, q] at g
    injection g with g
    subst g
    obtain ⟨x, y, e1, e2, e3⟩ := hp p h1
    rw [h2] at e1
    exact ⟨by show 2 ≤ sizeLine; rw [sizeLine_eq]; decide, [x, y], .cons e2 (.cons e3 .nil), ⟨_, e1, rfl, _, rfl⟩⟩
  · have q1 := q
    unfold putP at q1
    rw [lookup_off hb] at q1
    by_cases hb2 : b = S
    · subst hb2
      rw [show upd H b (.lst ((z.map Prod.fst).map V.ref)) b = some (.lst ((z.map Prod.fst).map V.ref)) from upd_same] at q1
      injection q1 with q1
      subst q1
      refine ⟨by simp only [List.length_map]; exact hz, acc.toList, c, by rw [hacc]; exact refs_vals _, ?_⟩
      rw [Array.toArray_toList]
      exact hS
    · have q2 : H b = some u := by
        rw [← q1]
        exact (upd_ne hb2).symm
      exact (I.hok b u q2).stay (fun d v _ y => hk d v y) (fun d y => kp d _ y) fun d v y => kp d _ y
def tListZip (K : PySem.W.Frag) (ta : TA) : TE := fun σ H Q => ta σ H fun vs H1 => ∃ (a b : Addr) (xs ys : List V), vs = [.ref a, .ref b] ∧ SqT K H1 a xs ∧ SqT K H1 b ys ∧ xs.length = ys.length ∧
  ∀ (H' : Hp) (p : Addr) (ts : List Addr), (∀ b o, H1 b = some o → H' b = some o) → H1 p = none → (∀ t ∈ ts, H1 t = none) → ts.length = xs.length → H' p = some (.lst (ts.map V.ref)) →
    PairsAt H' (ts.zip (xs.zip ys)) → Q (.ref p) H'
theorem zip_fst {as : List Addr} {ps : List (V × V)} (h : as.length = ps.length) : (as.zip ps).map Prod.fst = as := List.map_fst_zip (by omega)
theorem pe_listZip {e e2 : Expr} {ta : TA} {p p2 pos pos2 : Pos} (hc : X.calm = true) (hg : Gl X "list") (hm : X.mg "list" = none) (hv : bootBuiltins "list" = some (.type "list")) (hg2 : Gl X "zip") (hm2 : X.mg "zip" = none) (ha : PA X [e, e2] ta)
    (hs2 : starEach [e, e2] X.env = (false, eval e X.env) :: starEach [e2] X.env := by rfl) (hpl : (backTo pos2 (starEach [e2] X.env)).any (·.1) = false := by rfl)
    (hs : starEach [.Call (.Name "zip" p2) [e, e2] [] pos2] X.env = (false, eval (.Call (.Name "zip" p2) [e, e2] [] pos2) X.env) :: starEach [] X.env := by rfl) :
    PE X (.Call (.Name "list" p) [.Call (.Name "zip" p2) [e, e2] [] pos2] [] pos) (tListZip X.K ta) := by
  refine ⟨fun pins s σ H Q I h => ?_⟩
  refine wpAny_Call_Name_kw (ld_blt I hg hm hv (PyProof.Rows.callWith_type1 ?_ hs rfl))
  rw [hs]
  show wpAny _ _ (spliced ((false, eval (.Call (.Name "zip" p2) [e, e2] [] pos2) X.env) :: backTo pos (starEach [] X.env))) _ _ s
  refine Calls.spliced_cons (Call_ (ld_blt I hg2 hm2 PyProof.Rows.boot_zip (PyProof.Rows.callWith_type1 (thn (ha.run pos2 pins s σ H _ I h) fun us s1 ⟨vs, H1, I1, r1, a, b, xs, ys, ex, hx, hy, hl, q1⟩ => ?_) hs2 hpl)))
  subst ex
  obtain ⟨u, us, rfl, ru, r1⟩ : ∃ u us', us = u :: us' ∧ RelV (V.ref a) u ∧ Vals [V.ref b] us' := by cases r1 with | cons x y => exact ⟨_, _, rfl, x, y⟩
  obtain ⟨u2, us, rfl, ru2, r1⟩ : ∃ u us', us = u :: us' ∧ RelV (V.ref b) u ∧ Vals [] us' := by cases r1 with | cons x y => exact ⟨_, _, rfl, x, y⟩
  cases r1
  cases (show u = Value.ref a from ru)
  cases (show u2 = Value.ref b from ru2)
  obtain ⟨its, rv, p1, hmx⟩ := I1.tuple hx
  obtain ⟨its2, rv2, p3, _⟩ := I1.tuple hy
  have l1 := rv.length
  have l2 := rv2.length
  have hsz : its.length ≤ sizeLine := by omega
  obtain ⟨o1, ho1, _⟩ := id p1
  obtain ⟨o2, ho2, _⟩ := id p3
  refine call_zipT (show s1.heap.IsTuple a its.toArray from p1) (show s1.heap.IsTuple b its2.toArray from p3) fun h5 hz hTI hTO k1 k2 sz5 kp5 => ?_
  refine Calls.spliced_nil ?_
  have I2 : Inv X pins σ H1 { s1 with heap := h5 } := I1.kept (t' := s1.toks) kp5
  have T1 : h5.IsTuple a its.toArray := by
    obtain ⟨o, ho, r⟩ := (show s1.heap.IsTuple a its.toArray from p1)
    exact ⟨o, kp5 _ _ ho, r⟩
  have T2 : h5.IsTuple b its2.toArray := by
    obtain ⟨o, ho, r⟩ := (show s1.heap.IsTuple b its2.toArray from p3)
    exact ⟨o, kp5 _ _ ho, r⟩
  refine lz_call (s := { s1 with heap := h5 }) (xs := its.toArray) (ys := its2.toArray) (I1.ok.hd hc) (PySem.W.ktu_apart s1.heap.objs.size a b (Heap.lt_size ho1) (Heap.lt_size ho2)) (by simpa using hsz) (by simp; omega) hz hTI ⟨_, _, hTO⟩ k1 k2 T1 T2 fun h' tk acc c as g1 g2 g3 g4 g5 => ?_
  have hle : s1.heap.objs.size ≤ h5.objs.size := by rw [sz5]; exact Nat.le_add_right _ _
  have kp : ∀ b o, s1.heap.get? b = some o → h'.get? b = some o := fun c o q => by
    have hlt := Heap.lt_size q
    have ne : ∀ k : Nat, c ≠ s1.heap.objs.size + k := fun k => Nat.ne_of_lt (Nat.lt_of_lt_of_le hlt (Nat.le_add_right _ k))
    exact g1 c o (ne 4) (ne 3) (ne 0) (ne 1) (kp5 c o q)
  have hal : as.length = xs.length := by rw [g3, List.size_toArray]; omega
  have hlen : as.length = (xs.zip ys).length := by rw [List.length_zip]; omega
  have hfst := zip_fst hlen
  obtain ⟨H', j1, j2, j3, j4, j5, J⟩ := laid_pairs (tk := tk) (S := h5.objs.size) (acc := acc) (c := c) (z := as.zip (xs.zip ys)) I1 kp hle g2 (fun q hq => g4.above _ (by rw [← hfst]; exact List.mem_map.mpr ⟨q, hq, rfl⟩))
    (by rw [hfst]; exact List.Pairwise.imp (fun {a b} (h : a < b) => Nat.ne_of_lt h) g4.rise) (by rw [List.length_zip]; omega) (by rw [hfst]; exact g5) (fun q hq => by
      obtain ⟨j, hj⟩ := List.mem_iff_getElem?.mp hq
      rw [List.getElem?_zip_eq_some] at hj
      obtain ⟨e1, e2⟩ := hj
      rw [List.getElem?_zip_eq_some] at e2
      obtain ⟨e2, e3⟩ := e2
      obtain ⟨x, y, f1, f2, f3⟩ := g4.prs j _ e1
      obtain ⟨x2, f4, f5⟩ := rv.get e2
      obtain ⟨y2, f6, f7⟩ := rv2.get e3
      have f1' : its[j]? = some x := by simpa using f1
      have f2' : its2[j]? = some y := by simpa using f2
      rw [f1'] at f4
      rw [f2'] at f6
      injection f4 with f4
      injection f6 with f6
      subst f4 f6
      exact ⟨x, y, f3, f5, f7⟩)
  rw [hfst] at j4
  exact ⟨.ref h5.objs.size, H', J, rfl, q1 H' h5.objs.size as j1 j2 (fun t ht => by
    rw [← hfst] at ht
    obtain ⟨q, hq, e⟩ := List.mem_map.mp ht
    rw [← e]
    exact j3 q hq) hal j4 j5⟩
end
end LZ
end
section
set_option Elab.async false
set_option linter.all false
set_option maxRecDepth 100000
set_option maxHeartbeats 2000000
namespace Hs
open PySem PySem.Spec PyProof.Rows L2 Kt Nest
abbrev CKd (K : PySem.W.Frag) : Addr := ga K "Kinds"
structure TKd (K : PySem.W.Frag) (mg : Str → Option Value) : Prop where
  C : ClT K mg "Kinds"
  I : MeT K "Kinds" "__init__" "Kinds.__init__" s_Kinds___init__
  n : ∀ f ∈ (["rows", "numbers", "hollow", "sorts", "agreed"] : List Str), NoAttr K (CKd K) f
  number_of : MeT K "Kinds" "number_of" "Kinds.number_of" s_Kinds_number_of
  plain : MeT K "Kinds" "plain" "Kinds.plain" s_Kinds_plain
  list_of : MeT K "Kinds" "list_of" "Kinds.list_of" s_Kinds_list_of
  record_of : MeT K "Kinds" "record_of" "Kinds.record_of" s_Kinds_record_of
  agree : MeT K "Kinds" "agree" "Kinds.agree" s_Kinds_agree
  pairs_within : MeT K "Kinds" "pairs_within" "Kinds.pairs_within" s_Kinds_pairs_within
  alike : MeT K "Kinds" "alike" "Kinds.alike" s_Kinds_alike
  joined : MeT K "Kinds" "joined" "Kinds.joined" s_Kinds_joined
  NOTHING : IntT mg "NOTHING" 0
  len : mg "len" = none
  any : mg "any" = none
  zip : mg "zip" = none
  list : mg "list" = none
  tuple : mg "tuple" = none
def plainS : Nat → Str
  | 0 => "yesno"
  | 1 => "number"
  | 2 => "bytes"
  | 3 => "text"
  | 4 => "moment"
  | _ => "id"
def formS : Rw → Str
  | .nothing => "nothing"
  | .plain k => plainS k
  | .list _ => "list"
  | .record _ _ => "record"
  | .sort _ _ => "sort"
def namesS : Rw → List Str
  | .record ns _ => ns.map spell
  | .sort m n => [spell m, spell n]
  | _ => []
def toKey (r : Rw) : RK := (Sum.inr (formS r), (namesS r).map Sum.inr, r.parts.map fun (p : Nat) => Sum.inl ((p : Nat) : Int))
def KeyOk : Rw → Prop
  | .plain k => k < 6
  | _ => True
theorem inr_inj : ∀ {a b : List Str}, a.map (Sum.inr : Str → Key) = b.map Sum.inr → a = b
  | [], [], _ => rfl
  | [], _ :: _, h => by cases h
  | _ :: _, [], h => by cases h
  | x :: a, y :: b, h => by
    rw [List.map_cons, List.map_cons] at h
    injection h with h1 h2
    injection h1 with h1
    rw [h1, inr_inj h2]
theorem inl_inj : ∀ {a b : List Nat}, a.map (fun (p : Nat) => (Sum.inl ((p : Nat) : Int) : Key)) = b.map (fun (p : Nat) => Sum.inl ((p : Nat) : Int)) → a = b
  | [], [], _ => rfl
  | [], _ :: _, h => by cases h
  | _ :: _, [], h => by cases h
  | x :: a, y :: b, h => by
    rw [List.map_cons, List.map_cons] at h
    injection h with h1 h2
    injection h1 with h1
    have : x = y := by omega
    rw [this, inl_inj h2]
theorem spells_inj : ∀ {a b : List Sw.Bytes}, a.map spell = b.map spell → a = b
  | [], [], _ => rfl
  | [], _ :: _, h => by cases h
  | _ :: _, [], h => by cases h
  | x :: a, y :: b, h => by
    rw [List.map_cons, List.map_cons] at h
    injection h with h1 h2
    rw [spell_inj h1, spells_inj h2]
theorem plainS_inj {k l : Nat} (hk : k < 6) (hl : l < 6) (h : plainS k = plainS l) : k = l := by
  have e : ∀ a b : Fin 6, plainS a.val = plainS b.val → a = b := by decide +kernel
  exact congrArg Fin.val (e ⟨k, hk⟩ ⟨l, hl⟩ h)
theorem plainS_ne (k : Nat) : plainS k ≠ "nothing" ∧ plainS k ≠ "list" ∧ plainS k ≠ "record" ∧ plainS k ≠ "sort" := by
  match k with
  | 0 => decide +kernel
  | 1 => decide +kernel
  | 2 => decide +kernel
  | 3 => decide +kernel
  | 4 => decide +kernel
  | k + 5 =>
    have : ("id" : Str) ≠ "nothing" ∧ ("id" : Str) ≠ "list" ∧ ("id" : Str) ≠ "record" ∧ ("id" : Str) ≠ "sort" := by decide +kernel
    exact this
theorem toKey_inj {r s : Rw} (o1 : KeyOk r) (o2 : KeyOk s) (h : toKey r = toKey s) : r = s := by
  unfold toKey at h
  injection h with h1 h
  injection h with h2 h3
  injection h1 with h1
  have h2 := inr_inj h2
  have h3 := inl_inj h3
  have d : ("nothing" : Str) ≠ "list" ∧ ("nothing" : Str) ≠ "record" ∧ ("nothing" : Str) ≠ "sort" ∧ ("list" : Str) ≠ "record" ∧ ("list" : Str) ≠ "sort" ∧ ("record" : Str) ≠ "sort" := by decide +kernel
  obtain ⟨d1, d2, d3, d4, d5, d6⟩ := d
  cases r with
  | nothing => cases s with
    | nothing => rfl
    | plain l => exact absurd h1.symm (plainS_ne l).1
    | list q => exact absurd h1 d1
    | record ms qs => exact absurd h1 d2
    | sort p q => exact absurd h1 d3
  | plain k => cases s with
    | nothing => exact absurd h1 (plainS_ne k).1
    | plain l => rw [plainS_inj o1 o2 h1]
    | list q => exact absurd h1 (plainS_ne k).2.1
    | record ms qs => exact absurd h1 (plainS_ne k).2.2.1
    | sort p q => exact absurd h1 (plainS_ne k).2.2.2
  | list p => cases s with
    | nothing => exact absurd h1.symm d1
    | plain l => exact absurd h1.symm (plainS_ne l).2.1
    | list q =>
      have : p = q := by simpa [Rw.parts] using h3
      rw [this]
    | record ms qs => exact absurd h1 d4
    | sort p q => exact absurd h1 d5
  | record ns ps => cases s with
    | nothing => exact absurd h1.symm d2
    | plain l => exact absurd h1.symm (plainS_ne l).2.2.1
    | list q => exact absurd h1.symm d4
    | record ms qs =>
      have e1 := spells_inj h2
      have e2 : ps = qs := h3
      rw [e1, e2]
    | sort p q => exact absurd h1 d6
  | sort m n => cases s with
    | nothing => exact absurd h1.symm d3
    | plain l => exact absurd h1.symm (plainS_ne l).2.2.2
    | list q => exact absurd h1.symm d5
    | record ms qs => exact absurd h1.symm d6
    | sort p q =>
      have e := h2
      unfold namesS at e
      injection e with e1 e
      injection e with e2 _
      rw [spell_inj e1, spell_inj e2]
/-- the numbers by rows, as the dict holds them -/
def kvsOf : List Rw → List Addr → Nat → RKV
  | r :: T, a :: as, n => (toKey r, a, .int (n : Int)) :: kvsOf T as (n + 1)
  | _, _, _ => []
theorem kvs_len : ∀ {T : List Rw} {as : List Addr} {n : Nat}, as.length = T.length → (kvsOf T as n).length = T.length
  | [], [], _, _ => rfl
  | [], _ :: _, _, _ => rfl
  | _ :: _, [], _, h => by cases h
  | r :: T, a :: as, n, h => congrArg (· + 1) (kvs_len (T := T) (as := as) (n := n + 1) (by simpa using h))
theorem kvs_snoc : ∀ {T : List Rw} {as : List Addr} {n : Nat} {r : Rw} {a : Addr}, as.length = T.length → kvsOf (T ++ [r]) (as ++ [a]) n = kvsOf T as n ++ [(toKey r, a, .int ((n + T.length : Nat) : Int))]
  | [], [], n, r, a, _ => rfl
  | [], _ :: _, _, _, _, h => by cases h
  | _ :: _, [], _, _, _, h => by cases h
  | x :: T, y :: as, n, r, a, h => by
    show (_ :: kvsOf (T ++ [r]) (as ++ [a]) (n + 1)) = _
    rw [kvs_snoc (by simpa using h)]
    show _ = _ :: (kvsOf T as (n + 1) ++ _)
    have : n + 1 + T.length = n + (x :: T).length := by simp; omega
    rw [this]
theorem valR_cons (q : RK × Addr × V) (l : RKV) (k : RK) : valR (q :: l) k = if q.1 = k then some q.2.2 else valR l k := by
  unfold valR
  rw [List.find?_cons]
  by_cases e : q.1 = k
  · rw [decide_eq_true e, if_pos e]; rfl
  · rw [decide_eq_false e, if_neg e]
theorem valR_none : ∀ {T : List Rw} {as : List Addr} {n : Nat} {r : Rw}, (∀ x ∈ T, KeyOk x) → KeyOk r → r ∉ T → valR (kvsOf T as n) (toKey r) = none
  | [], _, _, _, _, _, _ => by unfold kvsOf; rfl
  | x :: T, [], _, _, _, _, _ => rfl
  | x :: T, a :: as, n, r, h1, h2, h3 => by
    show valR (_ :: kvsOf T as (n + 1)) (toKey r) = none
    rw [valR_cons, if_neg (fun e => h3 (by rw [toKey_inj (h1 x (by simp)) h2 e]; simp))]
    exact valR_none (fun y hy => h1 y (by simp [hy])) h2 (fun q => h3 (by simp [q]))
theorem valR_some : ∀ {T : List Rw} {as : List Addr} {n i : Nat} {r : Rw}, (∀ x ∈ T, KeyOk x) → T.Nodup → as.length = T.length → T[i]? = some r → valR (kvsOf T as n) (toKey r) = some (.int ((n + i : Nat) : Int))
  | [], _, _, _, _, _, _, _, h => by cases h
  | x :: T, [], _, _, _, _, _, h, _ => by cases h
  | x :: T, a :: as, n, 0, r, h1, h2, h3, h4 => by
    have e : x = r := by simpa using h4
    subst e
    show valR (_ :: kvsOf T as (n + 1)) (toKey x) = _
    rw [valR_cons, if_pos rfl]
    rfl
  | x :: T, a :: as, n, i + 1, r, h1, h2, h3, h4 => by
    have h4' : T[i]? = some r := by simpa using h4
    have hr : r ∈ T := List.mem_of_getElem? h4'
    have ne : ¬ toKey x = toKey r := fun e => by
      have e2 := toKey_inj (h1 x (by simp)) (h1 r (by simp [hr])) e
      rw [e2] at h2
      exact (List.nodup_cons.mp h2).1 hr
    show valR (_ :: kvsOf T as (n + 1)) (toKey r) = _
    rw [valR_cons, if_neg ne, valR_some (fun y hy => h1 y (by simp [hy])) (List.nodup_cons.mp h2).2 (by simpa using h3) h4']
    have : n + 1 + i = n + (i + 1) := by omega
    rw [this]
end Hs
end
section
set_option Elab.async false
set_option linter.all false
set_option maxRecDepth 100000
set_option maxHeartbeats 2000000
namespace Hs
open PySem PySem.Spec PyProof.Rows L2 Kt Nest
theorem hu2_of {A : Around} {k : Nat} (hr : Room k A) : A.units + 2 < cLine := by have := hr.un; omega
structure KO where
  ra : Addr
  na : Addr
  ha : Addr
  sa : Addr
  ga : Addr
  rows : List Addr
def KO.fs (o : KO) : List (Str × V) := [("rows", .ref o.ra), ("numbers", .ref o.na), ("hollow", .ref o.ha), ("sorts", .ref o.sa), ("agreed", .ref o.ga)]
theorem KO.l_rows (o : KO) : o.fs.lookup ("rows" : Str) = some (.ref o.ra) := by kernel_rfl
theorem KO.l_numbers (o : KO) : o.fs.lookup ("numbers" : Str) = some (.ref o.na) := by kernel_rfl
theorem KO.l_hollow (o : KO) : o.fs.lookup ("hollow" : Str) = some (.ref o.ha) := by kernel_rfl
theorem KO.l_agreed (o : KO) : o.fs.lookup ("agreed" : Str) = some (.ref o.ga) := by kernel_rfl
theorem KO.l_number_of (o : KO) : o.fs.lookup ("number_of" : Str) = none := by kernel_rfl
theorem KO.l_agree (o : KO) : o.fs.lookup ("agree" : Str) = none := by kernel_rfl
theorem KO.l_alike (o : KO) : o.fs.lookup ("alike" : Str) = none := by kernel_rfl
theorem KO.l_joined (o : KO) : o.fs.lookup ("joined" : Str) = none := by kernel_rfl
theorem KO.l_pairs (o : KO) : o.fs.lookup ("pairs_within" : Str) = none := by kernel_rfl
theorem KO.len (o : KO) : o.fs.length < 1000 := by show 5 < 1000; decide
def holV (T : List Rw) : List V := (List.range T.length).map fun i => V.bl (hollowAt T i)
structure KTab (P : Program) (w : World) (K : PySem.W.Frag) (H : Hp) (k : Addr) (T : List Rw) (o : KO) : Prop where
  self : ∃ dx, H k = some (.ins (CKd K) dx o.fs)
  rows : H o.ra = some (.lst (o.rows.map V.ref))
  keys : ∀ (i : Nat) (a : Addr) (r : Rw), o.rows[i]? = some a → T[i]? = some r → KeyAt H a (toKey r)
  nums : H o.na = some (rowHO P w o.na (kvsOf T o.rows 0))
  hol : H o.ha = some (.lst (holV T))
  len : o.rows.length = T.length
  wf : WF T
  kok : ∀ r ∈ T, KeyOk r
  rh : o.ra ≠ o.ha
theorem keyAt_to {H H' : Hp} {a : Addr} {k : RK} (h : KeyAt H a k) (t : ∀ b v, H b = some (.tup v) → H' b = some (.tup v)) : KeyAt H' a k := by
  obtain ⟨b, c, h1, h2, h3⟩ := h
  exact ⟨b, c, t _ _ h1, t _ _ h2, t _ _ h3⟩
section
variable {P : Program} {w : World} {K : PySem.W.Frag} {mg : Str → Option Value} {base : Heap} {H : Hp} {k : Addr} {T : List Rw} {o : KO}
theorem kvs_keys : ∀ {T : List Rw} {as : List Addr} {n : Nat}, (∀ (i : Nat) (a : Addr) (r : Rw), as[i]? = some a → T[i]? = some r → KeyAt H a (toKey r)) → ∀ p ∈ kvsOf T as n, KeyAt H p.2.1 p.1
  | [], _, _, _, p, hp => by unfold kvsOf at hp; cases hp
  | _ :: _, [], _, _, p, hp => by unfold kvsOf at hp; cases hp
  | r :: T, a :: as, n, h, p, hp => by
    rcases List.mem_cons.mp (show p ∈ (toKey r, a, V.int (n : Int)) :: kvsOf T as (n + 1) from hp) with e | e
    · subst e
      exact h 0 a r rfl rfl
    · exact kvs_keys (fun i a r h1 h2 => h (i + 1) a r (by simpa using h1) (by simpa using h2)) p e
theorem KTab.rowD (B : KTab P w K H k T o) : RowD P w H o.na (kvsOf T o.rows 0) := ⟨B.nums, kvs_keys B.keys⟩
theorem KTab.to {H' : Hp} (B : KTab P w K H k T o) (s : SameX [] H H') : KTab P w K H' k T o := by
  obtain ⟨⟨dx, q1⟩, q2, q3, q4, q5, q6, q7, q8, q9⟩ := B
  have g := s.same
  exact ⟨⟨dx, g _ _ q1⟩, g _ _ q2, fun i a r h1 h2 => keyAt_to (q3 i a r h1 h2) fun b v e => g _ _ e, g _ _ q4, g _ _ q5, q6, q7, q8, q9⟩
/-- two tables' objects are at the same places -/
def KO.sameAs (o o' : KO) : Prop := o'.ra = o.ra ∧ o'.na = o.na ∧ o'.ha = o.ha ∧ o'.sa = o.sa ∧ o'.ga = o.ga
theorem hasNoR_rows (f : Nat → War.K) : ∀ (ns : List Sw.Bytes) (ps : List Nat), ns.length = ps.length → hasNoR (rowOf ns (ps.map f)) = ps.any fun p => hasNo (f p)
  | [], [], _ => by show hasNoR .nil = false; rw [hasNoR]
  | n :: ns, p :: ps, h => by
    show hasNoR (.cons n (f p) (rowOf ns (ps.map f))) = _
    rw [hasNoR, hasNoR_rows f ns ps (by simpa using h)]
    rfl
  | [], _ :: _, h => by cases h
  | _ :: _, [], h => by cases h
theorem hol_mean {T : List Rw} {r : Rw} {n : Nat} (ok : RwOk n r) : hasNo (r.mean (kAt T)) = (decide (formS r = "nothing") || r.parts.any (hollowAt T)) := by
  have d : ("list" : Str) ≠ "nothing" ∧ ("record" : Str) ≠ "nothing" ∧ ("sort" : Str) ≠ "nothing" := by decide +kernel
  cases r with
  | nothing => rw [show formS .nothing = "nothing" from rfl, decide_eq_true rfl]; rfl
  | plain k => rw [show formS (.plain k) = plainS k from rfl, decide_eq_false (plainS_ne k).1]; rfl
  | list p => rw [show formS (.list p) = "list" from rfl, decide_eq_false d.1]; show _ = (false || ([p].any (hollowAt T))); simp [hollowAt, Rw.mean, hasNo]
  | record ns ps =>
    rw [show formS (.record ns ps) = "record" from rfl, decide_eq_false d.2.1]
    show hasNoR (rowOf ns (ps.map (kAt T))) = _
    rw [hasNoR_rows _ _ _ (ok.2 _ _ rfl)]
    rfl
  | sort m n => rw [show formS (.sort m n) = "sort" from rfl, decide_eq_false d.2.2]; rfl
theorem holV_snoc (T : List Rw) (r : Rw) : holV (T ++ [r]) = holV T ++ [V.bl (hasNo (r.mean (kAt T)))] := by
  unfold holV
  rw [List.length_append, List.length_singleton, List.range_succ, List.map_append]
  congr 1
  · apply List.map_congr_left
    intro i hi
    unfold hollowAt
    rw [kAt_snoc_lt (List.mem_range.mp hi)]
  · show [V.bl (hollowAt (T ++ [r]) T.length)] = _
    unfold hollowAt
    rw [kAt_snoc_eq]
theorem holV_at {T : List Rw} {i : Nat} (h : i < T.length) : (holV T)[i]? = some (V.bl (hollowAt T i)) := by
  unfold holV
  rw [List.getElem?_map, List.getElem?_range h]
  rfl
def spNum (P : Program) (w : World) (K : PySem.W.Frag) : Sp := fun vs H Q _ => ∃ (k nA pA : Addr) (T : List Rw) (o : KO) (r : Rw), vs = [.ref k, .str (formS r), .ref nA, .ref pA] ∧ KTab P w K H k T o ∧ H nA = some (.tup ((namesS r).map V.str)) ∧ H pA = some (.tup (r.parts.map fun (p : Nat) => V.int ((p : Nat) : Int))) ∧
  RwOk T.length r ∧ KeyOk r ∧ T.length < 1000000 ∧ r.parts.length < 1000000 ∧
  ∀ H' T' o' (i : Nat), (T' = T ∨ T' = T ++ [r]) → T'[i]? = some r → KTab P w K H' k T' o' → o.sameAs o' → SameX [o.ra, o.na, o.ha] H H' → Q (.int (i : Int)) H'
theorem ok_number_of (T0 : TKd K mg) : FnOk P w K mg base CX0 1 (ma K "Kinds" "number_of") (fdA K (ma K "Kinds" "number_of")) ["self", "form", "names", "parts"] (spNum P w K) := by
  refine T0.number_of.f.ok sc_Kinds_number_of (fun vs H Q E h => by obtain ⟨_, _, _, _, _, _, rfl, _⟩ := h; rfl) (fun cdv A outer s H vs Q E hr h => ⟨_, PSs.nox
    (pss_cons (ps_set (i := 4) sc_Kinds_number_of.nd rfl (Or.inl rfl) (pe_tup (pa_cons (pv 1) (pa_cons (pv 2) (pa_cons (pv 3) pa_nil)))))
    (pss_cons (ps_if (pt_cmp (pc_rnotin (hu2_of hr) (pv 4) (pe_fld (pv 0) rfl)))
      (pss_cons (ps_rput (hu2_of hr) (pe_fld (pv 0) rfl) (pv 4) (pe_callB call_len_seq (by rfl) T0.len PySem.boot_len (pa_cons (pe_fld (pv 0) rfl) pa_nil)) rfl)
      (pss_cons (ps_expr (pe_bm PySem.F.plainAttrs_list PySem.F.slot_list_append PySem.F.type_list_append mt_append (pe_fld (pv 0) rfl) (pa_cons (pv 4) pa_nil)))
      (pss_one (ps_expr (pe_bm PySem.F.plainAttrs_list PySem.F.slot_list_append PySem.F.type_list_append mt_append (pe_fld (pv 0) rfl) (pa_cons
        (pe_or (pe_cmpR op_eq (pv 1) pe_str (nomark _)) (pe_one (pe_callB (cr_any rfl) (by rfl) T0.any (by decide +kernel) (pa_cons
          (pe_lc (own := [("part", 5)]) (g := gName 5) (tt := tYes) (te := tOp (rIxL K) (tFld K (tVar 0) "hollow") (tVar 5)) rfl sc_Kinds_number_of.nd (pi_tup (pv 3)) (blkOk_by (N := N_Kinds_number_of) (sc := defScope s_Kinds_number_of) (by decide +kernel)) (fun _ _ _ _ _ => pg_name (i := 5) sc_Kinds_number_of.nd rfl (Or.inl rfl)) (fun _ _ _ _ _ => pts_nil)
            (fun _ _ _ _ _ => by exact (pe_ix ix_list (pe_fld (pv 0) rfl) (pv 5) (fun _ _ => rfl)))) pa_nil)))) pa_nil)))))) pss_nil)
    (pss_one (ps_ret (pe_rget (hu2_of hr) (pe_fld (pv 0) rfl) (pv 4) (fun _ _ => rfl)))))), ?_⟩)
  obtain ⟨k, nA, pA, T, o, r, rfl, B, hn, hp, ok, kok, hT, hP, kQ⟩ := h
  have nat := fun f h => T0.n f h
  refine ⟨_, rfl, _, rfl, _, rfl, (by show 3 ≤ sizeLine; rw [sizeLine_eq]; decide), fun R hR => ?_⟩
  have S1 := same_upd (o := HO.tup [V.str (formS r), V.ref nA, V.ref pA]) hR
  have B1 := B.to (SameX.of S1)
  generalize hH1 : upd H R (.tup [V.str (formS r), V.ref nA, V.ref pA]) = H1 at S1 B1 ⊢
  have hR1 : H1 R = some (.tup [V.str (formS r), V.ref nA, V.ref pA]) := by rw [← hH1, upd_same]
  have KA : KeyAt H1 R (toKey r) := by
    refine ⟨nA, pA, hR1, ?_, ?_⟩
    · have : (toKey r).2.1.map kV = (namesS r).map V.str := by unfold toKey; rw [List.map_map]; rfl
      rw [this]
      exact S1 _ _ hn
    · have : (toKey r).2.2.map kV = r.parts.map fun (p : Nat) => V.int ((p : Nat) : Int) := by unfold toKey; rw [List.map_map]; rfl
      rw [this]
      exact S1 _ _ hp
  obtain ⟨⟨dk, hk⟩, _⟩ := id B1
  dsimp only [tSeq, tIfS, tTest]
  refine ⟨_, rfl, ?_⟩
  refine rdFld (i := 0) (by rfl) hk T0.C.cl (nat _ (by simp)) o.l_numbers ?_
  refine ⟨o.na, _, R, toKey r, rfl, rfl, B1.rowD, KA, _, rfl, ?_⟩
  by_cases hm : r ∈ T
  · obtain ⟨i, hi⟩ := List.mem_iff_getElem?.mp hm
    have hv := valR_some (n := 0) B.kok B.wf.nd B.len hi
    rw [Nat.zero_add] at hv
    rw [hv]
    refine iteF ?_
    dsimp only [tNext, tRet]
    refine rdFld (i := 0) (by rfl) hk T0.C.cl (nat _ (by simp)) o.l_numbers ?_
    refine ⟨_, rfl, o.na, _, R, toKey r, _, rfl, rfl, B1.rowD, KA, hv, ?_⟩
    exact kQ H1 T o i (.inl rfl) hi B1 ⟨rfl, rfl, rfl, rfl, rfl⟩ (SameX.of S1)
  · have hv := valR_none (as := o.rows) (n := 0) B.kok kok hm
    rw [hv]
    refine iteT ?_
    have hlen : (o.rows.map V.ref).length = T.length := by rw [List.length_map, B.len]
    have n1 : k ≠ o.na := ne_of hk B1.nums (fun z => nomatch z)
    have n2 : k ≠ o.ra := ne_of hk B1.rows (fun z => nomatch z)
    have n3 : k ≠ o.ha := ne_of hk B1.hol (fun z => nomatch z)
    have n4 : o.na ≠ o.ra := ne_of B1.nums B1.rows (fun z => nomatch z)
    have n5 : o.na ≠ o.ha := ne_of B1.nums B1.hol (fun z => nomatch z)
    have n6 := B1.rh
    have n7 : R ≠ o.na := ne_of hR1 B1.nums (fun z => nomatch z)
    have n8 : R ≠ o.ra := ne_of hR1 B1.rows (fun z => nomatch z)
    have n9 : R ≠ o.ha := ne_of hR1 B1.hol (fun z => nomatch z)
    dsimp only [tSeq, sRPut, tCB, tCons, tNil]
    refine rdFld (i := 0) (by rfl) hk T0.C.cl (nat _ (by simp)) o.l_rows ?_
    refine ⟨_, _, rfl, .inl (SqL.of B1.rows), ?_⟩
    refine rdFld (i := 0) (by rfl) hk T0.C.cl (nat _ (by simp)) o.l_numbers ?_
    refine ⟨_, rfl, o.na, _, R, toKey r, rfl, rfl, B1.rowD, KA, hv, by rw [kvs_len B.len, sizeLine_eq]; omega, ?_⟩
    rw [hlen]
    have ek := kvs_snoc (n := 0) (r := r) (a := R) B.len
    rw [Nat.zero_add] at ek
    rw [← ek]
    dsimp only [cxOf]
    generalize hH2 : upd H1 o.na (rowHO P w o.na (kvsOf (T ++ [r]) (o.rows ++ [R]) 0)) = H2
    have S2 : SameX [o.na] H1 H2 := by rw [← hH2]; exact samex_upd (by simp)
    have hk2 := S2 _ _ (by simpa using n1) hk
    have hr2 := S2 _ _ (by simpa using Ne.symm n4) B1.rows
    have hh2 := S2 _ _ (by simpa using Ne.symm n5) B1.hol
    dsimp only [tDrop, tBM]
    refine rdFld (i := 0) (by rfl) hk2 T0.C.cl (nat _ (by simp)) o.l_rows ?_
    refine ⟨.inl ⟨rfl, _, SqL.of hr2⟩, _, rfl, _, _, _, rfl, rfl, hr2, by rw [hlen, sizeLine_eq]; omega, ?_⟩
    generalize hH3 : upd H2 o.ra (.lst (o.rows.map V.ref ++ [V.ref R])) = H3
    have S3 : SameX [o.ra] H2 H3 := by rw [← hH3]; exact samex_upd (by simp)
    have hk3 := S3 _ _ (by simpa using n2) hk2
    have hh3 := S3 _ _ (by simpa using Ne.symm n6) hh2
    refine rdFld (i := 0) (by rfl) hk3 T0.C.cl (nat _ (by simp)) o.l_hollow ?_
    refine ⟨.inl ⟨rfl, _, SqL.of hh3⟩, _, rfl, rfl, _, rfl, ?_⟩
    have S13 : SameX [o.na, o.ra] H1 H3 := (S2.mono (by simp)).trans (S3.mono (by simp))
    -- what is left, once it's known whether nothing is in it
    have fin : ∀ H4, SameX [] H3 H4 → H4 o.ha = some (.lst (holV T)) ∧ KTab P w K (upd H4 o.ha (.lst (holV T ++ [V.bl (hasNo (r.mean (kAt T)))]))) k (T ++ [r]) { o with rows := o.rows ++ [R] } := fun H4 s4 => by
      have g := s4.same
      refine ⟨g _ _ hh3, ?_⟩
      have S5 : SameX [o.ha] H4 (upd H4 o.ha (.lst (holV T ++ [V.bl (hasNo (r.mean (kAt T)))]))) := samex_upd (by simp)
      have tups : ∀ b v, H1 b = some (.tup v) → (upd H4 o.ha (.lst (holV T ++ [V.bl (hasNo (r.mean (kAt T)))]))) b = some (.tup v) := fun b v e => by
        have b1 : b ≠ o.na := ne_of e B1.nums (fun z => nomatch z)
        have b2 : b ≠ o.ra := ne_of e B1.rows (fun z => nomatch z)
        have b3 : b ≠ o.ha := ne_of e B1.hol (fun z => nomatch z)
        exact S5 _ _ (by simpa using b3) (g _ _ (S13 _ _ (by simp [b1, b2]) e))
      refine ⟨⟨dk, S5 _ _ (by simpa using n3) (g _ _ hk3)⟩, S5 _ _ (by simpa using n6) (g _ _ (by rw [← hH3, List.map_append]; exact upd_same)), fun i a x h1 h2 => ?_, S5 _ _ (by simpa using n5) (g _ _ (S3 _ _ (by simpa using n4) (by rw [← hH2]; exact upd_same))), ?_, by simp [B.len], B.wf.snoc ok hm, fun x hx => ?_, n6⟩
      · by_cases q : i < T.length
        · rw [List.getElem?_append_left q] at h2
          rw [List.getElem?_append_left (by rw [B.len]; exact q)] at h1
          exact keyAt_to (B1.keys i a x h1 h2) tups
        · have hi : i = T.length := by
            have := (List.getElem?_eq_some_iff.mp h2).1
            simp at this
            omega
          subst hi
          have e1 : x = r := by simpa using h2.symm
          have e2 : a = R := by
            have : (o.rows ++ [R])[o.rows.length]? = some a := by rw [B.len]; exact h1
            simpa using this.symm
          subst e1 e2
          exact keyAt_to KA tups
      · rw [holV_snoc]
        exact upd_same
      · rcases List.mem_append.mp hx with q | q
        · exact B.kok x q
        · have : x = r := by simpa using q
          rw [this]
          exact kok
    have dstr : decide (V.str (formS r) = V.str "nothing") = decide (formS r = "nothing") := by
      by_cases e : formS r = "nothing"
      · rw [e, decide_eq_true rfl, decide_eq_true rfl]
      · rw [decide_eq_false e, decide_eq_false (fun q => e (V.str.inj q))]
    rw [dstr]
    have hme := hol_mean (T := T) ok
    have ret : ∀ H4 (b : Bool), SameX [] H3 H4 → b = hasNo (r.mean (kAt T)) → rAppend (V.ref o.ha) [V.bl b] H4 fun x H1 => tRet (tRGet P w (tFld K (tVar 0) "numbers") (tVar 4)) { nx := fun _ H' => Q V.non H', rt := Q } [some (V.ref k), some (V.str (formS r)), some (V.ref nA), some (V.ref pA), some (V.ref R), none] H1 := by
      intro H4 b s4 hb
      subst hb
      obtain ⟨g1, g2⟩ := fin H4 s4
      refine ⟨_, _, _, rfl, rfl, g1, by unfold holV; rw [List.length_map, List.length_range, sizeLine_eq]; omega, ?_⟩
      obtain ⟨⟨dk5, hk5⟩, _⟩ := id g2
      dsimp only [tRet, tRGet]
      refine rdFld (i := 0) (by rfl) hk5 T0.C.cl (nat _ (by simp)) (KO.l_numbers _) ?_
      have hi : (T ++ [r])[T.length]? = some r := by simp
      have hv2 := valR_some (n := 0) g2.kok g2.wf.nd g2.len hi
      rw [Nat.zero_add] at hv2
      have KR : KeyAt (upd H4 o.ha (.lst (holV T ++ [V.bl (hasNo (r.mean (kAt T)))]))) R (toKey r) := g2.keys T.length R r (by show (o.rows ++ [R])[T.length]? = some R; rw [← B.len]; simp) hi
      refine ⟨_, rfl, o.na, _, R, toKey r, _, rfl, rfl, g2.rowD, KR, hv2, ?_⟩
      refine kQ _ (T ++ [r]) _ T.length (.inr rfl) hi g2 ⟨rfl, rfl, rfl, rfl, rfl⟩ ?_
      exact (SameX.of S1).trans ((S13.mono (by simp)).trans ((s4.mono (by simp)).trans (samex_upd (by simp))))
    refine iteD (fun e => ?_) (fun e => ?_)
    · rw [decide_eq_true e] at hme
      exact ret H3 true (SameX.refl _ _) (by rw [hme]; rfl)
    · rw [decide_eq_false e, Bool.false_or] at hme
      have hp3 : H3 pA = some (.tup (r.parts.map fun (p : Nat) => V.int ((p : Nat) : Int))) := by
        have q1 := S1 _ _ hp
        have b1 : pA ≠ o.na := ne_of q1 B1.nums (fun z => nomatch z)
        have b2 : pA ≠ o.ra := ne_of q1 B1.rows (fun z => nomatch z)
        exact S13 _ _ (by simp [b1, b2]) q1
      dsimp only [tCB, tCons, tNil]
      refine ⟨_, rfl, pA, rfl, ⟨_, SqT.of hp3⟩, fun D hD => lc_tup (xs := r.parts.map fun (p : Nat) => V.int ((p : Nat) : Int)) (fun i H' => H' = upd H3 D (.lst ((r.parts.take i).map fun p => V.bl (hollowAt T p)))) rfl (fun i H' _ q => ?_) ?_ ?_⟩
      · subst q
        exact SqT.of (same_upd hD _ _ hp3)
      · rintro i v H4 hi rfl
        rw [List.getElem?_map] at hi
        obtain ⟨p, hpi, rfl⟩ := Option.map_eq_some_iff.mp hi
        have hpT : p < T.length := ok.1 p (List.mem_of_getElem? hpi)
        have hk4 := same_upd (o := HO.lst ((r.parts.take i).map fun p => V.bl (hollowAt T p))) hD _ _ hk3
        have hh4 := same_upd (o := HO.lst ((r.parts.take i).map fun p => V.bl (hollowAt T p))) hD _ _ hh3
        refine ⟨rfl, yesT ?_⟩
        dsimp only [tOp]
        refine rdFld (i := 0) (by rfl) hk4 T0.C.cl (nat _ (by simp)) (KO.l_hollow _) ?_
        refine ⟨_, rfl, _, _, _, _, rfl, rfl, SqL.of hh4, atI_nat (holV_at hpT), _, upd_same, ?_, ?_⟩
        · rw [List.length_map, List.length_take, sizeLine_eq]
          omega
        · rw [upd_upd, List.take_add_one, hpi, List.map_append]
          rfl
      · rintro H4 rfl
        rw [List.length_map, List.take_length]
        refine ⟨D, r.parts.map (hollowAt T), rfl, SqL.of (by rw [upd_same, List.map_map]; rfl), ?_⟩
        have e2 : (r.parts.map (hollowAt T)).any id = hasNo (r.mean (kAt T)) := by rw [hme, List.any_map]; rfl
        exact ret _ _ (SameX.of (same_upd hD)) e2
end
end Hs
end
section
set_option Elab.async false
set_option linter.all false
set_option maxRecDepth 100000
set_option maxHeartbeats 2000000
namespace Hs
open PySem PySem.Spec PyProof.Rows L2 Kt Nest
theorem beq_str (a b : Str) : (a == b) = decide (a = b) := by
  by_cases e : a = b
  · subst e; simp
  · rw [decide_eq_false e]; simpa using e
theorem eqv_strs : ∀ a b : List Str, PyData.eqvAll (a.map PyData.str) (b.map PyData.str) = decide (a = b)
  | [], [] => rfl
  | [], _ :: _ => rfl
  | _ :: _, [] => rfl
  | x :: a, y :: b => by
    show (PyData.eqv (.str x) (.str y) && PyData.eqvAll (a.map PyData.str) (b.map PyData.str)) = _
    rw [eqv_strs a b]
    show ((x == y) && _) = _
    rw [beq_str]
    by_cases e : x = y
    · subst e; by_cases e2 : a = b
      · subst e2; simp
      · simp [e2]
    · simp [e]
theorem dp_strs {K : PySem.W.Frag} {H : Hp} : ∀ a : List Str, DpAll K H (a.map V.str) (a.map PyData.str)
  | [] => .nil
  | x :: a => .cons (.str x) (dp_strs a)
theorem sp1L_small (n : Nat) (hn : n < 256) : ∀ c ∈ sp1L n, c < 1114112 := by
  have h : ∀ n : Fin 256, ∀ c ∈ sp1L n.val, c < 1114112 := by decide +kernel
  exact h ⟨n, hn⟩
theorem spell_ok (b : Sw.Bytes) : PyData.strOk (spell b) = true := by
  show (spell b).cps.all (· < 0x110000) = true
  rw [← Array.all_toList, spell_codes, List.all_eq_true]
  intro c hc
  obtain ⟨x, _, h⟩ := List.mem_flatMap.mp hc
  exact decide_eq_true (sp1L_small _ x.toNat_lt c h)
theorem namesS_spell (r : Rw) : ∃ l : List Sw.Bytes, namesS r = l.map spell := by
  cases r with
  | record ns ps => exact ⟨ns, rfl⟩
  | sort m n => exact ⟨[m, n], rfl⟩
  | _ => exact ⟨[], rfl⟩
theorem shaped_names (r : Rw) : SeqAt.shaped (.tuple ((namesS r).map PyData.str)) = true := by
  obtain ⟨l, e⟩ := namesS_spell r
  rw [e]
  have h1 : ∀ l : List Sw.Bytes, PyData.canLayAll0 ((l.map spell).map PyData.str) = true := fun l => by
    induction l with
    | nil => rfl
    | cons x l ih =>
      show (PyData.canLay0 (.str (spell x)) && PyData.canLayAll0 ((l.map spell).map PyData.str)) = true
      rw [ih, Bool.and_true]
      exact spell_ok x
  have h2 : ∀ l : List Sw.Bytes, PyData.depthAll ((l.map spell).map PyData.str) = 0 := fun l => by
    induction l with
    | nil => rfl
    | cons x l ih =>
      show max 0 (PyData.depthAll ((l.map spell).map PyData.str)) = 0
      rw [ih]; rfl
  unfold SeqAt.shaped
  rw [Bool.and_eq_true]
  refine ⟨h1 l, decide_eq_true ?_⟩
  show PyData.depthAll ((l.map spell).map PyData.str) + 1 ≤ 64
  rw [h2]
  decide
theorem spells_iff {a b : List Sw.Bytes} : a.map spell = b.map spell ↔ a = b := ⟨spells_inj, fun e => by rw [e]⟩
theorem alike_key {r s : Rw} (o1 : KeyOk r) (o2 : KeyOk s) : alikeR r s = (decide (formS r = formS s) && decide (namesS r = namesS s)) := by
  have d : ("nothing" : Str) ≠ "list" ∧ ("nothing" : Str) ≠ "record" ∧ ("nothing" : Str) ≠ "sort" ∧ ("list" : Str) ≠ "record" ∧ ("list" : Str) ≠ "sort" ∧ ("record" : Str) ≠ "sort" := by decide +kernel
  obtain ⟨d1, d2, d3, d4, d5, d6⟩ := d
  have no : ∀ {a b : Str} {c : Bool}, a ≠ b → false = (decide (a = b) && c) := fun h => by rw [decide_eq_false h]; rfl
  have no' : ∀ {a b : Str} {c : Bool}, b ≠ a → false = (decide (a = b) && c) := fun h => by rw [decide_eq_false (Ne.symm h)]; rfl
  cases r with
  | nothing => cases s with
    | nothing => rw [decide_eq_true rfl, decide_eq_true rfl]; rfl
    | plain l => exact no (Ne.symm (plainS_ne l).1)
    | list q => exact no d1
    | record ms qs => exact no d2
    | sort p q => exact no d3
  | plain k => cases s with
    | nothing => exact no (plainS_ne k).1
    | plain l =>
      have : decide (namesS (.plain k) = namesS (.plain l)) = true := decide_eq_true rfl
      rw [this, Bool.and_true]
      show (k == l) = decide (plainS k = plainS l)
      by_cases e : k = l
      · subst e; simp
      · have : ¬ plainS k = plainS l := fun q => e (plainS_inj o1 o2 q)
        simp [e, this]
    | list q => exact no (plainS_ne k).2.1
    | record ms qs => exact no (plainS_ne k).2.2.1
    | sort p q => exact no (plainS_ne k).2.2.2
  | list p => cases s with
    | nothing => exact no' d1
    | plain l => exact no' (plainS_ne l).2.1
    | list q =>
      have h1 : decide (formS (.list p) = formS (.list q)) = true := decide_eq_true rfl
      have h2 : decide (namesS (.list p) = namesS (.list q)) = true := decide_eq_true rfl
      rw [h1, h2]; rfl
    | record ms qs => exact no d4
    | sort p q => exact no d5
  | record ns ps => cases s with
    | nothing => exact no' d2
    | plain l => exact no' (plainS_ne l).2.2.1
    | list q => exact no' d4
    | record ms qs =>
      have : decide (formS (.record ns ps) = formS (.record ms qs)) = true := decide_eq_true rfl
      rw [this, Bool.true_and]
      show (ns == ms) = decide (ns.map spell = ms.map spell)
      by_cases e : ns = ms
      · subst e; simp
      · have : ¬ ns.map spell = ms.map spell := fun q => e (spells_inj q)
        simp only [this, decide_false]
        simpa using e
    | sort p q => exact no d6
  | sort m n => cases s with
    | nothing => exact no' d3
    | plain l => exact no' (plainS_ne l).2.2.2
    | list q => exact no' d5
    | record ms qs => exact no' d6
    | sort p q =>
      have : decide (formS (.sort m n) = formS (.sort p q)) = true := decide_eq_true rfl
      rw [this, Bool.true_and]
      show (m == p && n == q) = decide ([spell m, spell n] = [spell p, spell q])
      by_cases e : m = p ∧ n = q
      · rw [e.1, e.2]; simp
      · have : ¬ [spell m, spell n] = [spell p, spell q] := fun z => e (by
          injection z with z1 z
          injection z with z2 _
          exact ⟨spell_inj z1, spell_inj z2⟩)
        rw [decide_eq_false this]
        cases h : (m == p && n == q) with
        | false => rfl
        | true => exact absurd (by simpa using h) e
section
variable {P : Program} {w : World} {K : PySem.W.Frag} {mg : Str → Option Value} {base : Heap} {H : Hp} {k : Addr} {T : List Rw} {o : KO}
theorem KTab.row (B : KTab P w K H k T o) {i : Nat} (h : i < T.length) : ∃ a b c, (o.rows.map V.ref)[i]? = some (V.ref a) ∧ H a = some (.tup [V.str (formS (rowAt T i)), .ref b, .ref c]) ∧ H b = some (.tup ((namesS (rowAt T i)).map V.str)) ∧ H c = some (.tup ((rowAt T i).parts.map fun (p : Nat) => V.int ((p : Nat) : Int))) := by
  have hi : i < o.rows.length := by rw [B.len]; exact h
  obtain ⟨b, c, h1, h2, h3⟩ := B.keys i _ _ (List.getElem?_eq_getElem hi) (rowAt_eq h)
  refine ⟨o.rows[i], b, c, by rw [List.getElem?_map, List.getElem?_eq_getElem hi]; rfl, h1, ?_, ?_⟩
  · have : (toKey (rowAt T i)).2.1.map kV = (namesS (rowAt T i)).map V.str := by unfold toKey; rw [List.map_map]; rfl
    rw [← this]; exact h2
  · have : (toKey (rowAt T i)).2.2.map kV = (rowAt T i).parts.map fun (p : Nat) => V.int ((p : Nat) : Int) := by unfold toKey; rw [List.map_map]; rfl
    rw [← this]; exact h3
def spAlike (P : Program) (w : World) (K : PySem.W.Frag) : Sp := fun vs H Q _ => ∃ (k : Addr) (T : List Rw) (o : KO) (i j : Nat), vs = [.ref k, .int (i : Int), .int (j : Int)] ∧ KTab P w K H k T o ∧ i < T.length ∧ j < T.length ∧ Q (.bl (alikeR (rowAt T i) (rowAt T j))) H
theorem ok_alike (T0 : TKd K mg) : FnOk P w K mg base CX0 1 (ma K "Kinds" "alike") (fdA K (ma K "Kinds" "alike")) ["self", "one", "other"] (spAlike P w K) := by
  refine T0.alike.f.ok sc_Kinds_alike (fun vs H Q E h => by obtain ⟨_, _, _, _, _, rfl, _⟩ := h; rfl) (fun cdv A outer s H vs Q E hr h => ⟨_, PSs.nox
    (pss_one (ps_ret (pe_and
      (pe_cmpR op_eq (pe_ix ix_tup (pe_ix ix_list (pe_fld (pv 0) rfl) (pv 1) (fun _ _ => rfl)) pe_int (fun _ _ => rfl)) (pe_ix ix_tup (pe_ix ix_list (pe_fld (pv 0) rfl) (pv 2) (fun _ _ => rfl)) pe_int (fun _ _ => rfl)) (nomark _))
      (pe_one (pe_cmpR (op_eqD hr.units) (pe_ix ix_tup (pe_ix ix_list (pe_fld (pv 0) rfl) (pv 1) (fun _ _ => rfl)) pe_int (fun _ _ => rfl)) (pe_ix ix_tup (pe_ix ix_list (pe_fld (pv 0) rfl) (pv 2) (fun _ _ => rfl)) pe_int (fun _ _ => rfl)) (nomark _)))))), ?_⟩)
  obtain ⟨k, T, o, i, j, rfl, B, hi, hj, kQ⟩ := h
  have nat := fun f h => T0.n f h
  obtain ⟨⟨dk, hk⟩, hrows, _⟩ := id B
  obtain ⟨a1, b1, c1, r1, r2, r3, r4⟩ := B.row hi
  obtain ⟨a2, b2, c2, s1, s2, s3, s4⟩ := B.row hj
  dsimp only [tRet, tAndV, tOrV, tOp, tC]
  refine rdFld (i := 0) (by rfl) hk T0.C.cl (nat _ (by simp)) (KO.l_rows _) ?_
  refine ⟨_, rfl, _, _, _, _, rfl, rfl, SqL.of hrows, atI_nat r1, _, _, _, V.str (formS (rowAt T i)), rfl, rfl, SqT.of r2, rfl, ?_⟩
  refine rdFld (i := 0) (by rfl) hk T0.C.cl (nat _ (by simp)) (KO.l_rows _) ?_
  refine ⟨_, rfl, _, _, _, _, rfl, rfl, SqL.of hrows, atI_nat s1, _, _, _, V.str (formS (rowAt T j)), rfl, rfl, SqT.of s2, rfl, ?_⟩
  have dstr : decide (V.str (formS (rowAt T i)) = V.str (formS (rowAt T j))) = decide (formS (rowAt T i) = formS (rowAt T j)) := by
    by_cases e : formS (rowAt T i) = formS (rowAt T j)
    · rw [e, decide_eq_true rfl, decide_eq_true rfl]
    · rw [decide_eq_false e, decide_eq_false (fun q => e (V.str.inj q))]
  rw [alike_key (B.kok _ (List.mem_of_getElem? (rowAt_eq hi))) (B.kok _ (List.mem_of_getElem? (rowAt_eq hj)))] at kQ
  refine ⟨rfl, _, rfl, ?_⟩
  rw [dstr]
  refine iteD (fun e => ?_) (fun e => ?_)
  · rw [decide_eq_true e, Bool.true_and] at kQ
    refine rdFld (i := 0) (by rfl) hk T0.C.cl (nat _ (by simp)) (KO.l_rows _) ?_
    refine ⟨_, rfl, _, _, _, _, rfl, rfl, SqL.of hrows, atI_nat r1, _, _, _, V.ref b1, rfl, rfl, SqT.of r2, rfl, ?_⟩
    refine rdFld (i := 0) (by rfl) hk T0.C.cl (nat _ (by simp)) (KO.l_rows _) ?_
    refine ⟨_, rfl, _, _, _, _, rfl, rfl, SqL.of hrows, atI_nat s1, _, _, _, V.ref b2, rfl, rfl, SqT.of s2, rfl, ?_⟩
    refine ⟨_, _, .tup (SqT.of r3) (dp_strs _), .tup (SqT.of s3) (dp_strs _), shaped_names _, shaped_names _, ?_⟩
    show Q (.bl (PyData.eqvAll _ _)) H
    rw [eqv_strs]
    exact kQ
  · rw [decide_eq_false e, Bool.false_and] at kQ
    exact kQ
end
end Hs
end
section
set_option Elab.async false
set_option linter.all false
set_option maxRecDepth 100000
set_option maxHeartbeats 2000000
namespace Hs
open PySem PySem.Spec PyProof.Rows L2 Kt Nest
/-- tuples of two numbers at these places -/
abbrev PrsAt (H : Hp) : List Addr → List (Nat × Nat) → Prop := All2 fun t q => H t = some (.tup [V.int (q.1 : Int), V.int (q.2 : Int)])
theorem All2.imp {α β : Type} {R S : α → β → Prop} (h : ∀ a b, R a b → S a b) {l : List α} {m : List β} (x : All2 R l m) : All2 S l m := by
  induction x with
  | nil => exact .nil
  | cons r t ih => exact .cons (h _ _ r) ih
theorem PrsAt.to {H H' : Hp} {ts : List Addr} {ps : List (Nat × Nat)} (h : PrsAt H ts ps) (t : ∀ b v, H b = some (.tup v) → H' b = some (.tup v)) : PrsAt H' ts ps := All2.imp (fun _ _ e => t _ _ e) h
theorem prs_of {H : Hp} : ∀ {ts : List Addr} {ps qs : List Nat}, ts.length = ps.length → ps.length = qs.length → LZ.PairsAt H (ts.zip ((ps.map fun (p : Nat) => V.int ((p : Nat) : Int)).zip (qs.map fun (p : Nat) => V.int ((p : Nat) : Int)))) → PrsAt H ts (ps.zip qs)
  | [], [], _, _, _, _ => by rw [List.zip_nil_left]; exact .nil
  | t :: ts, p :: ps, q :: qs, h1, h2, h => .cons (h (t, V.int (p : Int), V.int (q : Int)) (by simp)) (prs_of (by simpa using h1) (by simpa using h2) fun x hx => h x (by simp only [List.map_cons, List.zip_cons_cons, List.mem_cons]; exact .inr hx))
  | t :: ts, p :: ps, [], _, h, _ => by cases h
  | [], _ :: _, _, h, _, _ => by cases h
  | _ :: _, [], _, h, _, _ => by cases h
theorem parts_len {r s : Rw} {n m : Nat} (h : alikeR r s = true) (o1 : RwOk n r) (o2 : RwOk m s) : r.parts.length = s.parts.length := by
  cases r with
  | nothing => cases s <;> first | rfl | cases h
  | plain k => cases s <;> first | rfl | cases h
  | sort a b => cases s <;> first | rfl | cases h
  | list p => cases s <;> first | rfl | cases h
  | record ns ps => cases s <;> first | cases h | skip
                    rename_i ms qs
                    have e : ns = ms := by simpa [alikeR] using h
                    subst e
                    exact (o1.2 _ _ rfl).symm.trans (o2.2 _ _ rfl)
section
variable {P : Program} {w : World} {K : PySem.W.Frag} {mg : Str → Option Value} {base : Heap} {H : Hp} {k : Addr} {T : List Rw} {o : KO}
def spPairs (P : Program) (w : World) (K : PySem.W.Frag) : Sp := fun vs H Q _ => ∃ (k pr : Addr) (T : List Rw) (o : KO) (i j : Nat), vs = [.ref k, .ref pr] ∧ KTab P w K H k T o ∧ H pr = some (.tup [V.int (i : Int), V.int (j : Int)]) ∧ i < T.length ∧ j < T.length ∧
  ∀ H' p ts, Same H H' → H p = none → (∀ t ∈ ts, H t = none) → H' p = some (.lst (ts.map V.ref)) → PrsAt H' ts (pairsIn T i j) → Q (.ref p) H'
theorem ok_pairs (T0 : TKd K mg) : FnOk P w K mg base CX0 2 (ma K "Kinds" "pairs_within") (fdA K (ma K "Kinds" "pairs_within")) ["self", "pair"] (spPairs P w K) := by
  have GA : FnOk P w K mg base CX0 1 (ma K "Kinds" "alike") (fdA K (ma K "Kinds" "alike")) ["self", "one", "other"] (spAlike P w K) := ok_alike T0
  have bA := b_Kinds_alike T0.alike.f
  refine T0.pairs_within.f.ok sc_Kinds_pairs_within (fun vs H Q E h => by obtain ⟨_, _, _, _, _, _, rfl, _⟩ := h; rfl) (fun cdv A outer s H vs Q E hr h => ⟨_, PSs.nox
    (pss_cons (ps_asg (pv 1) (pg_tup (by rfl) (pgs_cons (pg_name (i := 2) sc_Kinds_pairs_within.nd rfl (Or.inl rfl)) (pgs_cons (pg_name (i := 3) sc_Kinds_pairs_within.nd rfl (Or.inl rfl)) pgs_nil))))
    (pss_cons (ps_set (i := 4) sc_Kinds_pairs_within.nd rfl (Or.inl rfl) (pe_or (pe_cmpR op_eq (pv 2) (pv 3) (nomark _)) (pe_one (pe_not (pe_or (pe_ix ix_list (pe_fld (pv 0) rfl) (pv 2) (fun _ _ => rfl)) (pe_one (pe_ix ix_list (pe_fld (pv 0) rfl) (pv 3) (fun _ _ => rfl))))))))
    (pss_cons (ps_if (PW.pt (pw_or (pt_val (pv 4)) (pw_or1 (pt_not (pt_val (pe_meth (pv 0) T0.C.cl T0.alike.me GA hr bA .nil pass0 (pa_cons (pv 2) (pa_cons (pv 3) pa_nil)))))))) (pss_one (ps_ret (pe_lst pa_nil))) pss_nil)
    (pss_one (ps_ret (LZ.pe_listZip rfl (by rfl) T0.list (by decide +kernel) (by rfl) T0.zip
      (pa_cons (pe_ix ix_tup (pe_ix ix_list (pe_fld (pv 0) rfl) (pv 2) (fun _ _ => rfl)) pe_int (fun _ _ => rfl)) (pa_cons (pe_ix ix_tup (pe_ix ix_list (pe_fld (pv 0) rfl) (pv 3) (fun _ _ => rfl)) pe_int (fun _ _ => rfl)) pa_nil)))))))), ?_⟩)
  obtain ⟨k, pr, T, o, i, j, rfl, B, hp, hi, hj, kQ⟩ := h
  have nat := fun f h => T0.n f h
  obtain ⟨⟨dk, hk⟩, hrows, _, _, hhol, _⟩ := id B
  refine ⟨_, rfl, pr, _, rfl, SqT.of hp, rfl, ?_⟩
  have none_ : pairsIn T i j = [] → tRet (tLst tNil) { nx := fun _ H' => Q V.non H', rt := Q } [some (V.ref k), some (V.ref pr), some (V.int (i : Int)), some (V.int (j : Int)), none] H := fun e => by
    refine ⟨nil_le, fun p hp' => kQ _ p [] (same_upd hp') hp' (fun _ h => by cases h) upd_same ?_⟩
    rw [e]
    exact .nil
  have rest : ∀ b : Bool, b = decide (i = j ∨ (hollowAt T i || hollowAt T j) = false) → tIfS (tOr (tB (tVar 4)) (tNot (tB (tMeth (CKd K) "alike" (spAlike P w K) [] E0 (tVar 0) (tCons (tVar 2) (tCons (tVar 3) tNil)))))) (tRet (tLst tNil)) tNext
      { nx := tRet (LZ.tListZip K (tCons (tOp (rIxT K) (tOp (rIxL K) (tFld K (tVar 0) "rows") (tVar 2)) (tC (V.int 2))) (tCons (tOp (rIxT K) (tOp (rIxL K) (tFld K (tVar 0) "rows") (tVar 3)) (tC (V.int 2))) tNil))) { nx := fun _ H' => Q V.non H', rt := Q }, rt := Q }
      [some (V.ref k), some (V.ref pr), some (V.int (i : Int)), some (V.int (j : Int)), some (V.bl b)] H := by
    intro b hb
    cases b with
    | true =>
      have hs := of_decide_eq_true hb.symm
      refine ⟨_, rfl, true, rfl, iteT (iteT ?_)⟩
      exact none_ (by unfold pairsIn; rw [if_pos (.inl hs)])
    | false =>
      have hs := of_decide_eq_false hb.symm
      refine ⟨_, rfl, false, rfl, iteF ?_⟩
      refine ⟨_, rfl, k, dk, _, rfl, hk, KO.l_alike _, _, rfl, _, rfl, k, T, o, i, j, rfl, B, hi, hj, _, rfl, ?_⟩
      cases al : alikeR (rowAt T i) (rowAt T j) with
      | false =>
        refine iteT ?_
        exact none_ (by unfold pairsIn; rw [if_pos (.inr al)])
      | true =>
        refine iteF ?_
        obtain ⟨a1, b1, c1, r1, r2, r3, r4⟩ := B.row hi
        obtain ⟨a2, b2, c2, s1, s2, s3, s4⟩ := B.row hj
        have o1 := B.wf.ok i _ (rowAt_eq hi)
        have o2 := B.wf.ok j _ (rowAt_eq hj)
        have pl := parts_len al o1 o2
        have ep : pairsIn T i j = (rowAt T i).parts.zip (rowAt T j).parts := by
          unfold pairsIn
          rw [if_neg (by rintro (q | q); exact hs q; rw [al] at q; cases q)]
        dsimp only [tNext, tRet, LZ.tListZip, tCons, tNil, tOp, tC]
        refine rdFld (i := 0) (by rfl) hk T0.C.cl (nat _ (by simp)) (KO.l_rows _) ?_
        refine ⟨_, rfl, _, _, _, _, rfl, rfl, SqL.of hrows, atI_nat r1, _, _, _, V.ref c1, rfl, rfl, SqT.of r2, rfl, ?_⟩
        refine rdFld (i := 0) (by rfl) hk T0.C.cl (nat _ (by simp)) (KO.l_rows _) ?_
        refine ⟨_, rfl, _, _, _, _, rfl, rfl, SqL.of hrows, atI_nat s1, _, _, _, V.ref c2, rfl, rfl, SqT.of s2, rfl, ?_⟩
        refine ⟨c1, c2, _, _, rfl, SqT.of r4, SqT.of s4, by simp [pl], fun H' p ts h1 h2 h3 h4 h5 h6 => kQ H' p ts (fun b u q => h1 b u q) h2 h3 h5 ?_⟩
        rw [ep]
        exact prs_of (by simpa using h4) pl h6
  dsimp only [gCons, gNil, gName, tSeq, tAsg, tOrV, tOp, tNotV]
  refine ⟨_, _, rfl, _, _, rfl, rfl, _, rfl, _, rfl, rfl, _, rfl, ?_⟩
  rw [dec_int]
  have hij : ((i : Int) = (j : Int)) ↔ i = j := by omega
  refine iteD (fun e => ?_) (fun e => ?_)
  · exact rest true (by rw [decide_eq_true (Or.inl (hij.mp e))])
  have ne : ¬ i = j := fun q => e (hij.mpr q)
  refine rdFld (i := 0) (by rfl) hk T0.C.cl (nat _ (by simp)) (KO.l_hollow _) ?_
  refine ⟨_, rfl, _, _, _, _, rfl, rfl, SqL.of hhol, atI_nat (holV_at hi), _, rfl, ?_⟩
  cases e1 : hollowAt T i with
  | true => exact iteT ⟨_, rfl, rest false (by rw [e1, decide_eq_false (by rintro (q | q); exact ne q; cases q)])⟩
  | false =>
    refine iteF ?_
    refine rdFld (i := 0) (by rfl) hk T0.C.cl (nat _ (by simp)) (KO.l_hollow _) ?_
    refine ⟨_, rfl, _, _, _, _, rfl, rfl, SqL.of hhol, atI_nat (holV_at hj), _, rfl, ?_⟩
    refine rest _ ?_
    rw [e1]
    cases e2 : hollowAt T j with
    | true => rw [decide_eq_false (by rintro (q | q); exact ne q; cases q)]; rfl
    | false => rw [decide_eq_true (show (i = j ∨ (false || false) = false) from Or.inr rfl)]; rfl
end
end Hs
end
section
set_option Elab.async false
set_option linter.all false
set_option maxRecDepth 100000
set_option maxHeartbeats 2000000
namespace Hs
open PySem PySem.Spec PyProof.Rows L2 Kt Nest
def prK (q : Nat × Nat) : List Key := [Sum.inl (q.1 : Int), Sum.inl (q.2 : Int)]
theorem all2_get {α β : Type} {R : α → β → Prop} {l : List α} {m : List β} (h : All2 R l m) : ∀ {n : Nat} {a : α}, l[n]? = some a → ∃ b, m[n]? = some b ∧ R a b := by
  induction h with
  | nil => intro n a e; cases e
  | cons r t ih =>
    intro n a e
    cases n with
    | zero => exact ⟨_, rfl, by simp at e; subst e; exact r⟩
    | succ n => exact ih (by simpa using e)
theorem all2_snoc {α β : Type} {R : α → β → Prop} {l : List α} {m : List β} (h : All2 R l m) {a : α} {b : β} (r : R a b) : All2 R (l ++ [a]) (m ++ [b]) := by
  induction h with
  | nil => exact .cons r .nil
  | cons q t ih => exact .cons q ih
/-- what's noted of a pair -/
def AgV (T : List Rw) (q : Nat × Nat) (v : V) : Prop := (v = .non ∧ (kAt T q.1).agree (kAt T q.2) = none) ∨ ∃ m, m < T.length ∧ v = .int (m : Int) ∧ (kAt T q.1).agree (kAt T q.2) = some (kAt T m)
/-- a table that goes on -/
def Grows (T T' : List Rw) : Prop := T' = T ∨ ∃ r, T' = T ++ [r]
theorem Grows.len {T T' : List Rw} (g : Grows T T') : T.length ≤ T'.length := by
  rcases g with e | ⟨r, e⟩
  · rw [e]; exact Nat.le_refl _
  · rw [e]; simp
theorem Grows.le1 {T T' : List Rw} (g : Grows T T') : T'.length ≤ T.length + 1 := by
  rcases g with e | ⟨r, e⟩
  · rw [e]; omega
  · rw [e]; simp
theorem Grows.kAt {T T' : List Rw} (g : Grows T T') {i : Nat} (h : i < T.length) : Kt.kAt T' i = Kt.kAt T i := by
  rcases g with e | ⟨r, e⟩
  · rw [e]
  · rw [e]; exact kAt_snoc_lt h
theorem Grows.rowAt {T T' : List Rw} (g : Grows T T') {i : Nat} (h : i < T.length) : Kt.rowAt T' i = Kt.rowAt T i := by
  rcases g with e | ⟨r, e⟩
  · rw [e]
  · rw [e]
    unfold Kt.rowAt
    rw [List.getD_eq_getElem?_getD, List.getD_eq_getElem?_getD, List.getElem?_append_left h]
theorem AgV.grows {T T' : List Rw} {q : Nat × Nat} {v : V} (a : AgV T q v) (g : Grows T T') (h1 : q.1 < T.length) (h2 : q.2 < T.length) : AgV T' q v := by
  rcases a with ⟨e, a⟩ | ⟨m, hm, e, a⟩
  · exact .inl ⟨e, by rw [g.kAt h1, g.kAt h2]; exact a⟩
  · exact .inr ⟨m, Nat.lt_of_lt_of_le hm g.len, e, by rw [g.kAt h1, g.kAt h2, g.kAt hm]; exact a⟩
theorem withParts_form (r : Rw) (ms : List Nat) : formS (r.withParts ms) = formS r ∧ namesS (r.withParts ms) = namesS r := by
  cases r <;> exact ⟨rfl, rfl⟩
theorem withParts_parts {r s : Rw} {ms : List Nat} (h : alikeR r s = true) (nz : r.parts.zip s.parts ≠ []) (l : (r.parts.zip s.parts).length = ms.length) : (r.withParts ms).parts = ms := by
  cases r with
  | nothing => exact absurd rfl nz
  | plain k => exact absurd rfl nz
  | sort a b => exact absurd rfl nz
  | record ns ps => rfl
  | list p =>
    cases s <;> first | cases h | skip
    match ms, l with
    | [m], _ => rfl
theorem withParts_kok {r : Rw} (h : KeyOk r) (ms : List Nat) : KeyOk (r.withParts ms) := by
  cases r <;> exact h
/-- either one of them is None, or all are numbers -/
theorem vals_cases {T : List Rw} : ∀ {ps : List (Nat × Nat)} {vs : List V}, All2 (fun q v => AgV T q v) ps vs →
    (inV .non vs = true ∧ ∃ p ∈ ps, (kAt T p.1).agree (kAt T p.2) = none) ∨ (inV .non vs = false ∧ ∃ ms : List Nat, vs = ms.map (fun (m : Nat) => V.int ((m : Nat) : Int)) ∧ (∀ m ∈ ms, m < T.length) ∧ All2 (fun p m => (kAt T p.1).agree (kAt T p.2) = some (kAt T m)) ps ms)
  | [], _, .nil => .inr ⟨rfl, [], rfl, (fun _ h => by cases h), .nil⟩
  | p :: ps, v :: vs, .cons a t => by
    have e : inV .non (v :: vs) = (eqV v .non || inV .non vs) := rfl
    rcases a with ⟨rfl, a⟩ | ⟨m, hm, rfl, a⟩
    · exact .inl ⟨by rw [e]; rfl, p, by simp, a⟩
    · rcases vals_cases t with ⟨h1, q, hq, h2⟩ | ⟨h1, ms, h2, h3, h4⟩
      · exact .inl ⟨by rw [e, h1]; simp, q, by simp [hq], h2⟩
      · refine .inr ⟨by rw [e, h1]; rfl, m :: ms, by rw [h2]; rfl, fun x hx => ?_, .cons a h4⟩
        rcases List.mem_cons.mp hx with z | z
        · rw [z]; exact hm
        · exact h3 x z
theorem vals_flat {T : List Rw} : ∀ {ps : List (Nat × Nat)} {vs : List V}, All2 (fun q v => AgV T q v) ps vs → vs.all flatV = true
  | [], _, .nil => rfl
  | p :: ps, v :: vs, .cons a t => by
    rw [List.all_cons, vals_flat t, Bool.and_true]
    rcases a with ⟨rfl, a⟩ | ⟨m, hm, rfl, a⟩ <;> rfl
section
variable {P : Program} {w : World} {K : PySem.W.Frag} {mg : Str → Option Value} {base : Heap} {H : Hp} {k : Addr} {T : List Rw} {o : KO}
def spJoined (P : Program) (w : World) (K : PySem.W.Frag) : Sp := fun vs H Q _ => ∃ (k pr : Addr) (T : List Rw) (o : KO) (G : List (List Key × V)) (i j : Nat), vs = [.ref k, .ref pr] ∧ KTab P w K H k T o ∧ H pr = some (.tup [V.int (i : Int), V.int (j : Int)]) ∧ H o.ga = some (.dT G) ∧ i < T.length ∧ j < T.length ∧ rowAt T 0 = .nothing ∧
  T.length < 1000000 ∧ (pairsIn T i j).length < 1000000 ∧ (∀ q ∈ pairsIn T i j, ∃ v, valV G (prK q) = some v ∧ AgV T q v) ∧
  ∀ H' T' o' v, Grows T T' → KTab P w K H' k T' o' → o.sameAs o' → SameX [o.ra, o.na, o.ha] H H' → AgV T' (i, j) v → Q v H'
theorem ok_joined (T0 : TKd K mg) : FnOk P w K mg base CX0 3 (ma K "Kinds" "joined") (fdA K (ma K "Kinds" "joined")) ["self", "pair"] (spJoined P w K) := by
  have GP : FnOk P w K mg base CX0 2 (ma K "Kinds" "pairs_within") (fdA K (ma K "Kinds" "pairs_within")) ["self", "pair"] (spPairs P w K) := ok_pairs T0
  have bP := b_Kinds_pairs_within T0.pairs_within.f
  have GN : FnOk P w K mg base CX0 1 (ma K "Kinds" "number_of") (fdA K (ma K "Kinds" "number_of")) ["self", "form", "names", "parts"] (spNum P w K) := ok_number_of T0
  have bN := b_Kinds_number_of T0.number_of.f
  refine T0.joined.f.ok sc_Kinds_joined (fun vs H Q E h => by obtain ⟨_, _, _, _, _, _, _, rfl, _⟩ := h; rfl) (fun cdv A outer s H vs Q E hr h => ⟨_, PSs.nox
    (pss_cons (ps_asg (pv 1) (pg_tup (by rfl) (pgs_cons (pg_name (i := 2) sc_Kinds_joined.nd rfl (Or.inl rfl)) (pgs_cons (pg_name (i := 3) sc_Kinds_joined.nd rfl (Or.inl rfl)) pgs_nil))))
    (pss_cons (ps_if (PW.pt (pw_or (pt_cmpR op_eq (pv 2) (pv 3) (nomark _)) (pw_or1 (pt_cmpR op_eq (pv 3) (pe_intT T0.NOTHING) (nomark _))))) (pss_one (ps_ret (pv 2))) pss_nil)
    (pss_cons (ps_if (pt_cmpR op_eq (pv 2) (pe_intT T0.NOTHING) (nomark _)) (pss_one (ps_ret (pv 3))) pss_nil)
    (pss_cons (ps_set (i := 4) sc_Kinds_joined.nd rfl (Or.inl rfl) (pe_meth (pv 0) T0.C.cl T0.pairs_within.me GP hr bP .nil pass0 (pa_cons (pv 1) pa_nil)))
    (pss_cons (ps_setLc (i := 5) (own := [("both", 9)]) (g := gName 9) (tt := tYes) (te := tDGet (tFld K (tVar 0) "agreed") (tVar 9)) rfl sc_Kinds_joined.nd rfl rfl (sw_true rfl rfl rfl (by decide +kernel)) (pi_list (pv 4)) (blkOk_by (N := N_Kinds_joined) (sc := defScope s_Kinds_joined) (by decide +kernel)) (fun _ _ _ _ _ => pg_name (i := 9) sc_Kinds_joined.nd rfl (Or.inl rfl)) (fun _ _ _ _ _ => pts_nil)
      (fun _ _ _ _ _ => by exact (pe_dget (hu_of hr) (pe_fld (pv 0) rfl) (pv 9) (fun _ _ => rfl))))
    (pss_cons (ps_if (PW.pt (pw_or (pt_not (pt_truth (pv 4) (by intro _; rfl))) (pw_or1 (pt_cmpR op_in_seq pe_non (pv 5) (by rfl))))) (pss_one (ps_ret pe_non)) pss_nil)
    (pss_cons (ps_asg (pe_ix ix_list (pe_fld (pv 0) rfl) (pv 2) (fun _ _ => rfl)) (pg_tup (by rfl) (pgs_cons (pg_name (i := 6) sc_Kinds_joined.nd rfl (Or.inl rfl)) (pgs_cons (pg_name (i := 7) sc_Kinds_joined.nd rfl (Or.inl rfl)) (pgs_cons (pg_name (i := 8) sc_Kinds_joined.nd rfl (Or.inl rfl)) pgs_nil)))))
    (pss_one (ps_ret (pe_meth (pv 0) T0.C.cl T0.number_of.me GN (hr.mono (by decide)) bN .nil pass0 (pa_cons (pv 6) (pa_cons (pv 7) (pa_cons (pe_callTy call_tuple_of (by rfl) T0.tuple (by decide +kernel) (pa_cons (pv 5) pa_nil)) pa_nil))))))))))))), ?_⟩)
  obtain ⟨k, pr, T, o, G, i, j, rfl, B, hp, hG, hi, hj, h0, hT, hL, hag, kQ⟩ := h
  have nat := fun f h => T0.n f h
  obtain ⟨⟨dk, hk⟩, hrows, _, _, hhol, _⟩ := id B
  have dInt : ∀ a b : Nat, decide (V.int (a : Int) = V.int (b : Int)) = decide (a = b) := fun a b => by
    rw [dec_int]
    by_cases e : a = b
    · rw [decide_eq_true e, decide_eq_true (by omega)]
    · rw [decide_eq_false e, decide_eq_false (by omega)]
  have dInt0 : ∀ a : Nat, decide (V.int (a : Int) = V.int 0) = decide (a = 0) := fun a => dInt a 0
  have pos : 0 < T.length := Nat.lt_of_le_of_lt (Nat.zero_le _) hi
  have is0 : ∀ {a : Nat}, a < T.length → (rowAt T a = .nothing ↔ a = 0) := fun {a} ha => by
    constructor
    · intro e
      have q1 := rowAt_eq ha
      have q2 := rowAt_eq pos
      rw [h0] at q2
      rw [e] at q1
      exact (List.getElem?_inj ha B.wf.nd).mp (q1.trans q2.symm)
    · intro e; rw [e]; exact h0
  have k0 : kAt T 0 = .nothing := by rw [kAt_mean B.wf pos, h0]; rfl
  have same0 : ∀ v, AgV T (i, j) v → Q v H := fun v hv => kQ H T o v (.inl rfl) B ⟨rfl, rfl, rfl, rfl, rfl⟩ (SameX.refl _ _) hv
  dsimp only [cxOf, Cx.nox]
  refine ⟨_, rfl, pr, _, rfl, SqT.of hp, rfl, ?_⟩
  dsimp only [gCons, gNil, gName, tSeq]
  refine ⟨_, _, rfl, _, _, rfl, rfl, _, rfl, _, rfl, rfl, _, rfl, ?_⟩
  rw [dInt]
  by_cases eij : i = j
  · rw [decide_eq_true eij]
    refine iteT (iteT ⟨_, rfl, same0 _ (.inr ⟨i, hi, rfl, ?_⟩)⟩)
    subst eij
    exact agree_self _
  rw [decide_eq_false eij]
  refine iteF ⟨_, rfl, rfl, _, rfl, ?_⟩
  rw [dInt0]
  by_cases ej : j = 0
  · rw [decide_eq_true ej]
    refine iteT ⟨_, rfl, same0 _ (.inr ⟨i, hi, rfl, ?_⟩)⟩
    rw [ej, k0]
    exact nothing_right _
  rw [decide_eq_false ej]
  refine iteF ?_
  dsimp only [tNext, tIfS, tTest, tOp]
  refine ⟨_, rfl, rfl, _, rfl, ?_⟩
  rw [dInt0]
  by_cases ei : i = 0
  · rw [decide_eq_true ei]
    refine iteT ⟨_, rfl, same0 _ (.inr ⟨j, hj, rfl, ?_⟩)⟩
    rw [ei, k0]
    exact nothing_left _
  rw [decide_eq_false ei]
  refine iteF ?_
  obtain ⟨J1, J2, J3⟩ := join B.wf hi hj eij (fun e => ei ((is0 hi).mp e)) (fun e => ej ((is0 hj).mp e))
  dsimp only [tAsg, tMeth, gName]
  refine ⟨_, rfl, k, dk, _, rfl, hk, KO.l_pairs _, _, rfl, k, pr, T, o, i, j, rfl, B, hp, hi, hj, fun H1 p1 ts S1 f1 f2 g1 g2 => ?_⟩
  have B1 := B.to (SameX.of S1)
  have hk1 := S1 _ _ hk
  have hG1 := S1 _ _ hG
  have hts : ts.length = (pairsIn T i j).length := g2.len
  refine ⟨_, rfl, p1, rfl, ⟨_, SqL.of g1⟩, fun D hD => lc_list (xs := ts.map V.ref) (fun n H' => ∃ vs, All2 (fun q v => AgV T q v) ((pairsIn T i j).take n) vs ∧ H' = upd H1 D (.lst vs)) ⟨[], by rw [List.take_zero]; exact .nil, rfl⟩ (fun n H' _ q => ?_) ?_ ?_⟩
  · obtain ⟨vs, _, rfl⟩ := q
    exact SqL.of (same_upd hD _ _ g1)
  · rintro n v H2 hn ⟨vs, hvs, rfl⟩
    rw [List.getElem?_map] at hn
    obtain ⟨t, ht, rfl⟩ := Option.map_eq_some_iff.mp hn
    obtain ⟨q, hq, htq⟩ := all2_get g2 ht
    obtain ⟨v, hv1, hv2⟩ := hag q (List.mem_of_getElem? hq)
    have sD := same_upd (o := HO.lst vs) hD
    refine ⟨rfl, yesT ?_⟩
    dsimp only [tDGet]
    refine rdFld (i := 0) (by rfl) (sD _ _ hk1) T0.C.cl (nat _ (by simp)) (KO.l_agreed _) ?_
    have dg := DGet.t (k := prK q) (sD _ _ hG1) (sD _ _ htq)
    rw [hv1] at dg
    refine ⟨_, rfl, _, v, rfl, dg, vs, upd_same, ?_, vs ++ [v], ?_, by rw [upd_upd]⟩
    · have l1 := hvs.len
      rw [List.length_take] at l1
      rw [sizeLine_eq]
      omega
    · rw [List.take_add_one, hq]
      exact all2_snoc hvs hv2
  · rintro H2 ⟨vs, hvs, rfl⟩
    rw [List.length_map, hts, List.take_length] at hvs
    have sD := same_upd (o := HO.lst vs) hD
    have S2 : Same H (upd H1 D (.lst vs)) := S1.trans sD
    generalize hH2 : upd H1 D (.lst vs) = H2 at sD S2 ⊢
    have hD2 : H2 D = some (.lst vs) := by rw [← hH2, upd_same]
    have B2 := B.to (SameX.of S2)
    have hk2 := S2 _ _ hk
    have g12 := sD _ _ g1
    dsimp only [gName, tSeq, tIfS]
    have emp : (!(ts.map V.ref).isEmpty) = !(pairsIn T i j).isEmpty := by
      cases ts with
      | nil => cases e : pairsIn T i j with
        | nil => rfl
        | cons => rw [e] at hts; cases hts
      | cons => cases e : pairsIn T i j with
        | nil => rw [e] at hts; cases hts
        | cons => rfl
    have noneQ : (kAt T i).agree (kAt T j) = none → Q .non H2 := fun e => kQ H2 T o _ (.inl rfl) B2 ⟨rfl, rfl, rfl, rfl, rfl⟩ (SameX.of S2) (.inl ⟨rfl, e⟩)
    refine ⟨_, rfl, _, .inl ⟨_, SqL.of g12, rfl⟩, ?_⟩
    rw [emp]
    cases hz : pairsIn T i j with
    | nil => exact iteT (iteT (noneQ (J1 hz)))
    | cons q0 l0 =>
      have nz : pairsIn T i j ≠ [] := by rw [hz]; simp
      refine iteF ⟨_, rfl, D, vs, rfl, .inl (SqL.of hD2), rfl, vals_flat hvs, _, rfl, ?_⟩
      rcases vals_cases hvs with ⟨h1, h2⟩ | ⟨h1, ms, h2, h3, h4⟩
      · rw [h1]
        exact iteT (noneQ (J2 h2))
      · rw [h1]
        refine iteF ?_
        obtain ⟨a1, b1, c1, r1, r2, r3, r4⟩ := B2.row hi
        have al : alikeR (rowAt T i) (rowAt T j) = true := by
          cases z : alikeR (rowAt T i) (rowAt T j) with
          | true => rfl
          | false => exact absurd (by unfold pairsIn; rw [if_pos (.inr z)]) nz
        have ep : pairsIn T i j = (rowAt T i).parts.zip (rowAt T j).parts := by
          unfold pairsIn at nz ⊢
          split at nz
          · exact absurd rfl nz
          · rename_i q
            rw [if_neg q]
        have o1 := B.wf.ok i _ (rowAt_eq hi)
        have o2 := B.wf.ok j _ (rowAt_eq hj)
        have hlm := h4.len
        have nzz := nz
        rw [ep] at hlm nzz
        obtain ⟨w1, w2⟩ := withParts_form (rowAt T i) ms
        have w3 := withParts_parts al nzz hlm
        have w4 := withParts_ok al o1 o2 hlm h3
        have w5 := withParts_kok (B.kok _ (List.mem_of_getElem? (rowAt_eq hi))) ms
        have hl4 := h4.len
        have hml : ms.length < 1000000 := by omega
        dsimp only [tNext, tSeq, tAsg, tOp, gTup, gCons, gNil, gName]
        refine rdFld (i := 0) (by rfl) hk2 T0.C.cl (nat _ (by simp)) (KO.l_rows _) ?_
        refine ⟨_, rfl, _, _, _, _, rfl, rfl, SqL.of B2.rows, atI_nat r1, a1, _, rfl, SqT.of r2, rfl, _, _, rfl, _, _, rfl, _, _, rfl, rfl, ?_⟩
        dsimp only [tRet, tMeth, tCons, tNil, tCB]
        refine ⟨_, rfl, k, dk, _, rfl, hk2, KO.l_number_of _, _, rfl, _, rfl, _, rfl, D, vs, rfl, .inl ⟨SqL.of hD2, fun pA hpA => ?_⟩⟩
        have sP := same_upd (o := HO.tup vs) hpA
        refine ⟨k, b1, pA, T, o, (rowAt T i).withParts ms, by rw [w1]; rfl, B2.to (SameX.of sP), by rw [w2]; exact sP _ _ r3, by rw [w3, upd_same, h2], w4, w5, hT, by rw [w3]; exact hml, fun H' T' o' n hT' hn BT sm sx => ?_⟩
        have gr : Grows T T' := by
          rcases hT' with e | e
          · exact .inl e
          · exact .inr ⟨_, e⟩
        refine kQ H' T' o' _ gr BT sm ((SameX.of (S2.trans sP)).trans sx) (.inr ⟨n, (List.getElem?_eq_some_iff.mp hn).1, rfl, ?_⟩)
        rw [gr.kAt hi, gr.kAt hj, J3 ms h4 nz, kAt_row BT.wf hn]
        congr 1
        exact (mean_congr fun p hp => gr.kAt (w4.1 p hp)).symm
end
end Hs
end
section
set_option Elab.async false
set_option linter.all false
set_option maxRecDepth 100000
set_option maxHeartbeats 2000000
namespace Hs
open PySem PySem.Spec PyProof.Rows L2 Kt Nest
/-! ### agreeing: what waits -/
structure Ent where
  a : Addr
  p : Nat × Nat
  s : Nat
def wt (T : List Rw) (e : Ent) : Nat := if e.s = 0 then kcost (kAt T e.p.1) (kAt T e.p.2) else if e.s = 1 then 2 else 1
def wts (T : List Rw) (l : List Ent) : Nat := (l.map (wt T)).sum
def noted (G : List (List Key × V)) (q : Nat × Nat) : Bool := (valV G (prK q)).isSome
def AgOk (T : List Rw) (G : List (List Key × V)) : Prop := ∀ (q : Nat × Nat) v, valV G (prK q) = some v → q.1 < T.length ∧ q.2 < T.length ∧ AgV T q v
theorem prK_inj {p q : Nat × Nat} (h : prK p = prK q) : p = q := by
  unfold prK at h
  injection h with h1 h
  injection h with h2 _
  injection h1 with h1
  injection h2 with h2
  exact Prod.ext (by omega) (by omega)
theorem wt_pos (T : List Rw) (e : Ent) : 1 ≤ wt T e := by
  unfold wt
  split
  · exact Nat.le_trans (by decide) (kcost_ge _ _)
  split <;> omega
theorem wts_len (T : List Rw) : ∀ l : List Ent, l.length ≤ wts T l
  | [] => Nat.zero_le _
  | e :: l => by
    have h1 := wt_pos T e
    have h2 := wts_len T l
    show l.length + 1 ≤ wt T e + wts T l
    omega
theorem wts_append (T : List Rw) (l m : List Ent) : wts T (l ++ m) = wts T l + wts T m := by
  unfold wts
  rw [List.map_append, List.sum_append]
theorem Grows.pairs {T T' : List Rw} (g : Grows T T') {i j : Nat} (hi : i < T.length) (hj : j < T.length) : pairsIn T' i j = pairsIn T i j := by
  unfold pairsIn hollowAt
  rw [g.kAt hi, g.kAt hj, g.rowAt hi, g.rowAt hj]
theorem Grows.wt {T T' : List Rw} (g : Grows T T') {e : Ent} (h : e.p.1 < T.length ∧ e.p.2 < T.length) : Hs.wt T' e = Hs.wt T e := by
  unfold Hs.wt
  rw [g.kAt h.1, g.kAt h.2]
theorem Grows.wts {T T' : List Rw} (g : Grows T T') : ∀ {l : List Ent}, (∀ e ∈ l, e.p.1 < T.length ∧ e.p.2 < T.length) → Hs.wts T' l = Hs.wts T l
  | [], _ => rfl
  | e :: l, h => by
    show Hs.wt T' e + Hs.wts T' l = Hs.wt T e + Hs.wts T l
    rw [g.wt (h e (by simp)), Grows.wts g (fun x hx => h x (by simp [hx]))]
structure StkOk (T : List Rw) (G : List (List Key × V)) (g0 : Nat × Nat) (C : Nat) (l : List Ent) : Prop where
  lt : ∀ e ∈ l, e.p.1 < T.length ∧ e.p.2 < T.length
  cost : ∀ e ∈ l, kcost (kAt T e.p.1) (kAt T e.p.2) ≤ C
  one : ∀ (u r : List Ent) (e : Ent), l = u ++ e :: r → e.s = 1 → ∀ q ∈ pairsIn T e.p.1 e.p.2, noted G q = true ∨ ∃ f ∈ r, f.p = q
  two : ∀ e ∈ l, 2 ≤ e.s → noted G e.p = true
  goal : noted G g0 = true ∨ ∃ e ∈ l, e.p = g0
section
variable {T T' : List Rw} {G : List (List Key × V)} {g0 : Nat × Nat} {C : Nat} {l : List Ent} {e : Ent}
theorem StkOk.pop (S : StkOk T G g0 C (l ++ [e])) (h : noted G e.p = true) : StkOk T G g0 C l := by
  refine ⟨fun x hx => S.lt x (by simp [hx]), fun x hx => S.cost x (by simp [hx]), fun u r x hx hs q hq => ?_, fun x hx => S.two x (by simp [hx]), ?_⟩
  · rcases S.one u (r ++ [e]) x (by rw [hx]; simp) hs q hq with z | ⟨f, hf, z⟩
    · exact .inl z
    · rcases List.mem_append.mp hf with y | y
      · exact .inr ⟨f, y, z⟩
      · have : f = e := by simpa using y
        subst this
        exact .inl (by rw [← z]; exact h)
  · rcases S.goal with z | ⟨f, hf, z⟩
    · exact .inl z
    · rcases List.mem_append.mp hf with y | y
      · exact .inr ⟨f, y, z⟩
      · have : f = e := by simpa using y
        subst this
        exact .inl (by rw [← z]; exact h)
/-- where the last element of a list stands -/
theorem snoc_split {α : Type} {l u r : List α} {x e : α} (h : l ++ [e] = u ++ x :: r) : (r = [] ∧ x = e ∧ u = l) ∨ ∃ r', r = r' ++ [e] ∧ l = u ++ x :: r' := by
  rcases List.eq_nil_or_concat r with z | ⟨r', y, z⟩
  · subst z
    obtain ⟨h1, h2⟩ := List.append_inj' h rfl
    injection h2 with h2
    exact .inl ⟨rfl, h2.symm, h1.symm⟩
  · subst z
    have : l ++ [e] = (u ++ x :: r') ++ [y] := by rw [h]; simp
    obtain ⟨h1, h2⟩ := List.append_inj' this rfl
    injection h2 with h2
    exact .inr ⟨r', by rw [h2]; simp, h1⟩
theorem StkOk.note (S : StkOk T G g0 C (l ++ [e])) (g : Grows T T') (v : V) : StkOk T' (putK G (prK e.p) v) g0 C (l ++ [{ e with s := 2 }]) := by
  have n1 : ∀ q, noted G q = true → noted (putK G (prK e.p) v) q = true := fun q h => by
    unfold noted at h ⊢
    rw [valV_put]
    split
    · rfl
    · exact h
  have n2 : noted (putK G (prK e.p) v) e.p = true := by
    unfold noted
    rw [valV_put, if_pos rfl]
    rfl
  have mem : ∀ x ∈ l ++ [{ e with s := 2 }], ∃ y ∈ l ++ [e], y.p = x.p ∧ (x ∈ l ∨ x.p = e.p) := fun x hx => by
    rcases List.mem_append.mp hx with z | z
    · exact ⟨x, by simp [z], rfl, .inl z⟩
    · have : x = { e with s := 2 } := by simpa using z
      subst this
      exact ⟨e, by simp, rfl, .inr rfl⟩
  refine ⟨fun x hx => ?_, fun x hx => ?_, fun u r x hx hs q hq => ?_, fun x hx h2 => ?_, ?_⟩
  · obtain ⟨y, hy, h, _⟩ := mem x hx
    have := S.lt y hy
    rw [h] at this
    exact ⟨Nat.lt_of_lt_of_le this.1 g.len, Nat.lt_of_lt_of_le this.2 g.len⟩
  · obtain ⟨y, hy, h, _⟩ := mem x hx
    have h1 := S.lt y hy
    have h2 := S.cost y hy
    rw [h] at h1 h2
    rw [g.kAt h1.1, g.kAt h1.2]
    exact h2
  · rcases snoc_split hx with ⟨_, z, _⟩ | ⟨r', z1, z2⟩
    · rw [z] at hs; cases hs
    · have hlt := S.lt x (by rw [z2]; simp)
      rw [g.pairs hlt.1 hlt.2] at hq
      rcases S.one u (r' ++ [e]) x (by rw [z2]; simp) hs q hq with y | ⟨f, hf, y⟩
      · exact .inl (n1 q y)
      · rcases List.mem_append.mp hf with w | w
        · exact .inr ⟨f, by rw [z1]; simp [w], y⟩
        · have : f = e := by simpa using w
          subst this
          exact .inl (by rw [← y]; exact n2)
  · obtain ⟨y, hy, h, z⟩ := mem x hx
    rcases z with z | z
    · exact n1 _ (S.two x (by simp [z]) h2)
    · rw [z]; exact n2
  · rcases S.goal with z | ⟨f, hf, z⟩
    · exact .inl (n1 _ z)
    · rcases List.mem_append.mp hf with w | w
      · exact .inr ⟨f, by simp [w], z⟩
      · have : f = e := by simpa using w
        subst this
        exact .inr ⟨{ f with s := 2 }, by simp, z⟩
/-- the pairs within that aren't noted yet, as they wait -/
def newE (inn : List (Addr × (Nat × Nat))) : List Ent := inn.map fun x => ⟨x.1, x.2, 0⟩
theorem costL_le (f : Nat → War.K) : ∀ {l : List (Nat × Nat)} {p : Nat × Nat}, p ∈ l → kcost (f p.1) (f p.2) ≤ costL f l
  | q :: l, p, h => by
    show _ ≤ kcost (f q.1) (f q.2) + costL f l
    rcases List.mem_cons.mp h with z | z
    · rw [z]; omega
    · have := costL_le f z; omega
theorem costL_len (f : Nat → War.K) : ∀ l : List (Nat × Nat), l.length ≤ costL f l
  | [] => Nat.zero_le _
  | q :: l => by
    have h1 := costL_len f l
    have h2 := kcost_ge (f q.1) (f q.2)
    show l.length + 1 ≤ kcost (f q.1) (f q.2) + costL f l
    omega
theorem StkOk.expand (W : WF T) (S : StkOk T G g0 C (l ++ [e])) {inn : List (Addr × (Nat × Nat))} (h1 : ∀ x ∈ inn, x.2 ∈ pairsIn T e.p.1 e.p.2) (h2 : ∀ q ∈ pairsIn T e.p.1 e.p.2, noted G q = true ∨ ∃ x ∈ inn, x.2 = q) :
    StkOk T G g0 C ((l ++ [{ e with s := 1 }]) ++ newE inn) := by
  have he := S.lt e (by simp)
  have ce := S.cost e (by simp)
  have cp := cost_pairs W he.1 he.2
  have mem : ∀ x ∈ (l ++ [{ e with s := 1 }]) ++ newE inn, (∃ y ∈ l ++ [e], y.p = x.p ∧ (x ∈ l ∨ x.s = 1)) ∨ (x.s = 0 ∧ x.p ∈ pairsIn T e.p.1 e.p.2) := fun x hx => by
    rcases List.mem_append.mp hx with z | z
    · rcases List.mem_append.mp z with z | z
      · exact .inl ⟨x, by simp [z], rfl, .inl z⟩
      · have : x = { e with s := 1 } := by simpa using z
        subst this
        exact .inl ⟨e, by simp, rfl, .inr rfl⟩
    · obtain ⟨y, hy, z⟩ := List.mem_map.mp z
      subst z
      exact .inr ⟨rfl, h1 y hy⟩
  refine ⟨fun x hx => ?_, fun x hx => ?_, fun u r x hx hs q hq => ?_, fun x hx h2 => ?_, ?_⟩
  · rcases mem x hx with ⟨y, hy, h, _⟩ | ⟨_, h⟩
    · rw [← h]; exact S.lt y hy
    · have := pairs_lt W he.1 he.2 h
      exact ⟨Nat.lt_trans this.1 he.1, Nat.lt_trans this.2 he.2⟩
  · rcases mem x hx with ⟨y, hy, h, _⟩ | ⟨_, h⟩
    · rw [← h]; exact S.cost y hy
    · have := costL_le (kAt T) h
      omega
  · -- an entry that is expanded
    have key : ∀ (u r : List Ent), l ++ [{ e with s := 1 }] = u ++ x :: r → noted G q = true ∨ ∃ f ∈ r ++ newE inn, f.p = q := fun u r hx => by
      rcases snoc_split hx with ⟨z1, z2, z3⟩ | ⟨r', z1, z2⟩
      · rw [z2] at hq
        rcases h2 q hq with y | ⟨y, hy, z⟩
        · exact .inl y
        · exact .inr ⟨⟨y.1, y.2, 0⟩, List.mem_append.mpr (.inr (List.mem_map.mpr ⟨y, hy, rfl⟩)), z⟩
      · rcases S.one u (r' ++ [e]) x (by rw [z2]; simp) hs q hq with y | ⟨f, hf, y⟩
        · exact .inl y
        · rcases List.mem_append.mp hf with w | w
          · exact .inr ⟨f, by rw [z1]; simp [w], y⟩
          · have : f = e := by simpa using w
            subst this
            exact .inr ⟨{ f with s := 1 }, by rw [z1]; simp, y⟩
    -- new ones are not
    rcases List.append_eq_append_iff.mp hx with ⟨as, e1, e2⟩ | ⟨as, e1, e2⟩
    · -- l ++ [..] begins u: x is a new one
      have hx2 : x ∈ newE inn := by rw [e2]; simp
      obtain ⟨y, _, z⟩ := List.mem_map.mp hx2
      rw [← z] at hs
      cases hs
    · cases as with
      | nil =>
        rw [List.nil_append] at e2
        have hx2 : x ∈ newE inn := by rw [← e2]; simp
        obtain ⟨y, _, z⟩ := List.mem_map.mp hx2
        rw [← z] at hs
        cases hs
      | cons a as =>
        injection e2 with e3 e4
        subst e3
        rw [e4]
        exact key u as e1
  · rcases mem x hx with ⟨y, hy, h, z⟩ | ⟨h, _⟩
    · rcases z with z | z
      · exact S.two x (by simp [z]) h2
      · omega
    · omega
  · rcases S.goal with z | ⟨f, hf, z⟩
    · exact .inl z
    · rcases List.mem_append.mp hf with w | w
      · exact .inr ⟨f, by simp [w], z⟩
      · have : f = e := by simpa using w
        subst this
        exact .inr ⟨{ f with s := 1 }, by simp, z⟩
theorem wts_new (T : List Rw) (inn : List (Addr × (Nat × Nat))) : wts T (newE inn) = costL (kAt T) (inn.map Prod.snd) := by
  unfold wts newE costL
  rw [List.map_map, List.map_map]
  rfl
end
end Hs
end
section
set_option Elab.async false
set_option linter.all false
set_option maxRecDepth 100000
set_option maxHeartbeats 4000000
namespace Hs
open PySem PySem.Spec PyProof.Rows L2 Kt Nest
def innOf (G : List (List Key × V)) (z : List (Addr × (Nat × Nat))) : List (Addr × (Nat × Nat)) := z.filter fun x => !noted G x.2
theorem inn_cost (f : Nat → War.K) (G : List (List Key × V)) : ∀ z : List (Addr × (Nat × Nat)), costL f ((innOf G z).map Prod.snd) ≤ costL f (z.map Prod.snd)
  | [] => Nat.le_refl _
  | x :: z => by
    have ih := inn_cost f G z
    unfold innOf at ih ⊢
    rw [List.filter_cons]
    show _ ≤ kcost (f x.2.1) (f x.2.2) + costL f (z.map Prod.snd)
    split
    · show kcost (f x.2.1) (f x.2.2) + costL f ((z.filter _).map Prod.snd) ≤ _
      omega
    · omega
/-- a table that goes on, further -/
def ExtT (T T' : List Rw) : Prop := ∃ l, T' = T ++ l
theorem ExtT.refl (T : List Rw) : ExtT T T := ⟨[], by simp⟩
theorem ExtT.grow {T T' T'' : List Rw} (e : ExtT T T') (g : Grows T' T'') : ExtT T T'' := by
  obtain ⟨l, rfl⟩ := e
  rcases g with h | ⟨r, h⟩
  · exact ⟨l, h⟩
  · exact ⟨l ++ [r], by rw [h]; simp⟩
theorem ExtT.kAt {T T' : List Rw} (e : ExtT T T') {i : Nat} (h : i < T.length) : Kt.kAt T' i = Kt.kAt T i := by
  obtain ⟨l, rfl⟩ := e
  induction l using Kt.snocInd with
  | h0 => simp
  | h1 l r ih =>
    rw [← List.append_assoc, kAt_snoc_lt (by simp; omega)]
    exact ih
theorem ExtT.rowAt {T T' : List Rw} (e : ExtT T T') {i : Nat} (h : i < T.length) : Kt.rowAt T' i = Kt.rowAt T i := by
  obtain ⟨l, rfl⟩ := e
  unfold Kt.rowAt
  rw [List.getD_eq_getElem?_getD, List.getD_eq_getElem?_getD, List.getElem?_append_left h]
theorem ExtT.len {T T' : List Rw} (e : ExtT T T') : T.length ≤ T'.length := by
  obtain ⟨l, rfl⟩ := e
  simp
theorem KO.sameAs_trans {o o1 o2 : KO} (a : o.sameAs o1) (b : o1.sameAs o2) : o.sameAs o2 := by
  obtain ⟨a1, a2, a3, a4, a5⟩ := a
  obtain ⟨b1, b2, b3, b4, b5⟩ := b
  exact ⟨b1.trans a1, b2.trans a2, b3.trans a3, b4.trans a4, b5.trans a5⟩
section
variable {P : Program} {w : World} {K : PySem.W.Frag} {mg : Str → Option Value} {base : Heap}
theorem KTab.toX {H H' : Hp} {k x : Addr} {T : List Rw} {o : KO} (B : KTab P w K H k T o) (s : SameX [x] H H') (h1 : k ≠ x) (h2 : o.ra ≠ x) (h3 : o.na ≠ x) (h4 : o.ha ≠ x) (tx : ∀ v, H x ≠ some (.tup v)) : KTab P w K H' k T o := by
  obtain ⟨⟨dx, q1⟩, q2, q3, q4, q5, q6, q7, q8, q9⟩ := B
  exact ⟨⟨dx, s _ _ (by simpa using h1) q1⟩, s _ _ (by simpa using h2) q2, fun i a r g1 g2 => keyAt_to (q3 i a r g1 g2) fun b v e => s _ _ (by
    have : b ≠ x := fun z => tx v (by rw [← z]; exact e)
    simpa using this) e, s _ _ (by simpa using h3) q4, s _ _ (by simpa using h4) q5, q6, q7, q8, q9⟩
def spAgree (P : Program) (w : World) (K : PySem.W.Frag) : Sp := fun vs H Q _ => ∃ (k : Addr) (T : List Rw) (o : KO) (G : List (List Key × V)) (i j : Nat), vs = [.ref k, .int (i : Int), .int (j : Int)] ∧ KTab P w K H k T o ∧ H o.ga = some (.dT G) ∧ AgOk T G ∧ rowAt T 0 = .nothing ∧ i < T.length ∧ j < T.length ∧
  T.length + kcost (kAt T i) (kAt T j) < 900000 ∧ G.length + kcost (kAt T i) (kAt T j) < 900000 ∧
  ∀ H' T' o' G' v, ExtT T T' → KTab P w K H' k T' o' → H' o'.ga = some (.dT G') → AgOk T' G' → o.sameAs o' → SameX [o.ra, o.na, o.ha, o.ga] H H' → AgV T' (i, j) v → T'.length ≤ T.length + kcost (kAt T i) (kAt T j) → Q v H'
/-- while something waits -/
structure AgSt (P : Program) (w : World) (K : PySem.W.Frag) (H0 H : Hp) (k wa : Addr) (T0 : List Rw) (o0 : KO) (L : Nat) (g0 : Nat × Nat) (C m : Nat) (T : List Rw) (o : KO) (G : List (List Key × V)) (stk : List Ent) : Prop where
  tab : KTab P w K H k T o
  ag : H o.ga = some (.dT G)
  ok : AgOk T G
  zero : rowAt T 0 = .nothing
  ext : ExtT T0 T
  sam : o0.sameAs o
  wl : H wa = some (.lst (stk.map fun e => V.ref e.a))
  tup : ∀ e ∈ stk, H e.a = some (.tup [V.int (e.p.1 : Int), V.int (e.p.2 : Int)])
  stk_ : StkOk T G g0 C stk
  ms : m = wts T stk
  lt : T.length + m ≤ L
  lg : G.length + m ≤ 900000
  sx : SameX [o0.ra, o0.na, o0.ha, o0.ga] H0 H
  fresh : H0 wa = none
theorem ok_agree (T0 : TKd K mg) : FnOk P w K mg base CX0 4 (ma K "Kinds" "agree") (fdA K (ma K "Kinds" "agree")) ["self", "one", "other"] (spAgree P w K) := by
  have GP : FnOk P w K mg base CX0 2 (ma K "Kinds" "pairs_within") (fdA K (ma K "Kinds" "pairs_within")) ["self", "pair"] (spPairs P w K) := ok_pairs T0
  have bP := b_Kinds_pairs_within T0.pairs_within.f
  have GJ : FnOk P w K mg base CX0 3 (ma K "Kinds" "joined") (fdA K (ma K "Kinds" "joined")) ["self", "pair"] (spJoined P w K) := ok_joined T0
  have bJ := b_Kinds_joined T0.joined.f
  refine T0.agree.f.ok sc_Kinds_agree (fun vs H Q E h => by obtain ⟨_, _, _, _, _, _, rfl, _⟩ := h; rfl) (fun cdv A outer s H vs Q E hr h => ⟨_, PSs.nox
    (pss_cons (ps_set (i := 3) sc_Kinds_agree.nd rfl (Or.inl rfl) (pe_lst (pa_cons (pe_tup (pa_cons (pv 1) (pa_cons (pv 2) pa_nil))) pa_nil)))
    (pss_cons (ps_while PassesOwn.never (pt_truth (pv 3) (by intro _; rfl))
      (pss_cons (ps_set (i := 4) sc_Kinds_agree.nd rfl (Or.inl rfl) (pe_ix ix_list (pv 3) (pe_un un_neg pe_int) (fun _ _ => rfl)))
      (pss_cons (ps_if (pt_cmp (pc_din (hu_of hr) (pv 4) (pe_fld (pv 0) rfl)))
        (pss_cons (ps_expr (pe_bm0 PySem.F.plainAttrs_list PySem.F.slot_list_pop PySem.F.type_list_pop mt_pop (pv 3))) (pss_one ps_continue)) pss_nil)
      (pss_cons (ps_setLc (i := 5) (own := [("both", 6)]) (g := gName 6) (tt := tB (tDNotIn (tVar 6) (tFld K (tVar 0) "agreed"))) (te := tVar 6) rfl sc_Kinds_agree.nd rfl rfl (sw_true rfl rfl rfl (by decide +kernel))
        (pi_list (pe_meth (pv 0) T0.C.cl T0.pairs_within.me GP (hr.mono (by decide)) bP .nil pass0 (pa_cons (pv 4) pa_nil))) (blkOk_by (N := N_Kinds_agree) (sc := defScope s_Kinds_agree) (by decide +kernel)) (fun _ _ _ _ _ => pg_name (i := 6) sc_Kinds_agree.nd rfl (Or.inl rfl))
        (fun _ _ _ _ _ => by exact (pts_one (pt_cmp (pc_dnotin (hu_of hr) (pv 6) (pe_fld (pv 0) rfl))))) (fun _ _ _ _ _ => by exact pv 6))
      (pss_one (ps_if (pt_truth (pv 5) (by intro _; rfl))
        (pss_one (ps_expr (pe_bm PySem.F.plainAttrs_list PySem.F.slot_list_extend PySem.F.type_list_extend mt_extend (pv 3) (pa_cons (pv 5) pa_nil))))
        (pss_one (ps_dput (hu_of hr) (pe_fld (pv 0) rfl) (pv 4) (pe_meth (pv 0) T0.C.cl T0.joined.me GJ hr bJ .nil pass0 (pa_cons (pv 4) pa_nil)) rfl))))))))
    (pss_one (ps_ret (pe_dget (hu_of hr) (pe_fld (pv 0) rfl) (pe_tup (pa_cons (pv 1) (pa_cons (pv 2) pa_nil))) (fun _ _ => rfl)))))), ?_⟩)
  obtain ⟨k, T, o, G, i, j, rfl, B, hG, hA, h0, hi, hj, l1, l2, kQ⟩ := h
  have nat := fun f h => T0.n f h
  dsimp only [cxOf, Cx.nox]
  refine ⟨_, rfl, _, rfl, (by show 2 ≤ sizeLine; rw [sizeLine_eq]; decide), fun R hR => ⟨(by show 1 ≤ sizeLine; rw [sizeLine_eq]; decide), fun wa hwa => ?_⟩⟩
  obtain ⟨wR, hwa0⟩ := none_upd hwa
  have sR := same_upd (o := HO.tup [V.int (i : Int), V.int (j : Int)]) hR
  have sW := same_upd (o := HO.lst [V.ref R]) hwa
  have S0 := sR.trans sW
  refine ⟨fun m σ H' => ∃ c4 c5 c6 T' o' G' stk, σ = [some (V.ref k), some (V.int (i : Int)), some (V.int (j : Int)), some (V.ref wa), c4, c5, c6] ∧ AgSt P w K H H' k wa T o (T.length + kcost (kAt T i) (kAt T j)) (i, j) (kcost (kAt T i) (kAt T j)) m T' o' G' stk,
    ⟨_, none, none, none, T, o, G, [⟨R, (i, j), 0⟩], rfl, ⟨B.to (SameX.of S0), S0 _ _ hG, hA, h0, ExtT.refl T, ⟨rfl, rfl, rfl, rfl, rfl⟩, upd_same, fun e he => ?_, ⟨fun e he => ?_, fun e he => ?_, fun u r e he hs => ?_, fun e he hs => ?_, .inr ⟨_, List.mem_singleton.mpr rfl, rfl⟩⟩, rfl, ?_, ?_, SameX.of S0, hwa0⟩⟩, ?_⟩
  · have : e = ⟨R, (i, j), 0⟩ := by simpa using he
    rw [this]
    exact sW _ _ upd_same
  · have : e = ⟨R, (i, j), 0⟩ := by simpa using he
    rw [this]; exact ⟨hi, hj⟩
  · have : e = ⟨R, (i, j), 0⟩ := by simpa using he
    rw [this]; exact Nat.le_refl _
  · have hm : e ∈ [(⟨R, (i, j), 0⟩ : Ent)] := by rw [he]; simp
    have : e = ⟨R, (i, j), 0⟩ := by simpa using hm
    rw [this] at hs; cases hs
  · have : e = ⟨R, (i, j), 0⟩ := by simpa using he
    rw [this] at hs
    exact absurd (show 2 ≤ 0 from hs) (by decide)
  · show T.length + (wt T ⟨R, (i, j), 0⟩ + 0) ≤ _
    unfold wt
    rw [if_pos rfl]
    exact Nat.le_refl _
  · show G.length + (wt T ⟨R, (i, j), 0⟩ + 0) ≤ _
    unfold wt
    rw [if_pos rfl]
    show G.length + (kcost (kAt T i) (kAt T j) + 0) ≤ 900000
    omega
  rintro m σ H1 ⟨c4, c5, c6, T1, o1, G1, stk, rfl, A⟩
  obtain ⟨B1, hG1, hA1, h01, ex1, sam1, hw1, ht1, S1, ms1, lt1, lg1, sx1, wf1⟩ := id A
  obtain ⟨⟨dk, hk1⟩, _⟩ := id B1
  rcases List.eq_nil_or_concat stk with hst | ⟨st0, e, hst⟩
  · subst hst
    refine ⟨_, rfl, false, .inl ⟨_, SqL.of hw1, rfl⟩, iteF ?_⟩
    dsimp only [tRet, tDGet]
    refine rdFld (i := 0) (by rfl) hk1 T0.C.cl (nat _ (by simp)) (KO.l_agreed _) ?_
    refine ⟨_, rfl, _, rfl, (by show 2 ≤ sizeLine; rw [sizeLine_eq]; decide), fun R2 hR2 => ?_⟩
    have s2 := same_upd (o := HO.tup [V.int (i : Int), V.int (j : Int)]) hR2
    have nt : noted G1 (i, j) = true := by
      rcases S1.goal with z | ⟨_, z, _⟩
      · exact z
      · cases z
    obtain ⟨v, hv⟩ : ∃ v, valV G1 (prK (i, j)) = some v := by
      unfold noted at nt
      exact Option.isSome_iff_exists.mp nt
    have dg := DGet.t (k := prK (i, j)) (s2 _ _ hG1) (show (upd H1 R2 (.tup [V.int (i : Int), V.int (j : Int)])) R2 = some (.tup ((prK (i, j)).map kV)) from upd_same)
    rw [hv] at dg
    refine ⟨o1.ga, v, rfl, dg, ?_⟩
    obtain ⟨_, _, av⟩ := hA1 (i, j) v hv
    exact kQ _ T1 o1 G1 v ex1 (B1.to (SameX.of s2)) (s2 _ _ hG1) hA1 sam1 (sx1.trans (SameX.of s2)) av (by omega)
  · rw [List.concat_eq_append] at hst
    subst hst
    have hmap : ((st0 ++ [e]).map fun e => V.ref e.a) = (st0.map fun e => V.ref e.a) ++ [V.ref e.a] := by rw [List.map_append]; rfl
    rw [hmap] at hw1
    have hne : (!((st0.map fun e => V.ref e.a) ++ [V.ref e.a]).isEmpty) = true := by simp
    have helt := S1.lt e (by simp)
    have hec := S1.cost e (by simp)
    have hte := ht1 e (by simp)
    have wnk : k ≠ wa := ne_of hk1 hw1 (fun z => nomatch z)
    have old : ∀ {b : Addr} {u : HO}, H b = some u → b ≠ wa := fun h z => by rw [z, wf1] at h; cases h
    have wnr : o1.ra ≠ wa := by rw [sam1.1]; exact old B.rows
    have wnn : o1.na ≠ wa := by rw [sam1.2.1]; exact old B.nums
    have wnh : o1.ha ≠ wa := by rw [sam1.2.2.1]; exact old B.hol
    have wng : o1.ga ≠ wa := ne_of hG1 hw1 (fun z => nomatch z)
    refine ⟨_, rfl, true, .inl ⟨_, SqL.of hw1, hne.symm⟩, iteT ⟨_, fun _ _ h => h, ?_⟩⟩
    dsimp only [tSeq, tAsg, tOp, gName]
    refine ⟨_, rfl, _, rfl, _, _, _, _, rfl, rfl, SqL.of hw1, atI_last _ _, ?_⟩
    dsimp only [tIfS, tB]
    refine ⟨_, rfl, ?_⟩
    refine rdFld (i := 0) (by rfl) hk1 T0.C.cl (nat _ (by simp)) (KO.l_agreed _) ?_
    refine ⟨o1.ga, _, rfl, DGet.t (k := prK e.p) hG1 hte, _, rfl, ?_⟩
    cases hno : noted G1 e.p with
    | true =>
      have : (valV G1 (prK e.p)).isSome = true := hno
      rw [this]
      refine iteT ?_
      have hl2 : ((st0.map fun e => V.ref e.a) ++ [V.ref e.a])[((st0.map fun e => V.ref e.a) ++ [V.ref e.a]).length - 1]? = some (V.ref e.a) := by simp
      have hdl : ((st0.map fun e => V.ref e.a) ++ [V.ref e.a]).dropLast = st0.map fun e => V.ref e.a := List.dropLast_concat
      have hwe := wt_pos T1 e
      have hws : wts T1 (st0 ++ [e]) = wts T1 st0 + (wt T1 e + 0) := wts_append T1 st0 [e]
      refine ⟨_, rfl, .inl ⟨rfl, _, SqL.of hw1⟩, _, _, _, rfl, rfl, hw1, hl2, wts T1 st0, by omega, _, c5, c6, T1, o1, G1, st0, rfl, ?_⟩
      rw [hdl]
      have sU : SameX [wa] H1 (upd H1 wa (.lst (st0.map fun e => V.ref e.a))) := samex_upd (by simp)
      exact ⟨B1.toX sU wnk wnr wnn wnh (fun v z => by rw [hw1] at z; cases z), sU _ _ (by simpa using wng) hG1, hA1, h01, ex1, sam1, upd_same, fun x hx => sU _ _ (by
          have q := ht1 x (by simp [hx])
          have : x.a ≠ wa := ne_of q hw1 (fun z => nomatch z)
          simpa using this) (ht1 x (by simp [hx])), S1.pop hno, rfl, by omega, by omega, fun b u hb hu => sU _ _ (by
          have : b ≠ wa := fun z => by rw [z, wf1] at hu; cases hu
          simpa using this) (sx1 _ _ hb hu), wf1⟩
    | false =>
      have : (valV G1 (prK e.p)).isSome = false := hno
      rw [this]
      refine iteF ?_
      dsimp only [tNext, tLc, tMeth]
      refine ⟨_, rfl, k, dk, _, rfl, hk1, KO.l_pairs _, _, rfl, k, e.a, T1, o1, e.p.1, e.p.2, rfl, B1, hte, helt.1, helt.2, fun H2 p1 ts S2 f1 f2 g1 g2 => ⟨p1, rfl, ⟨_, SqL.of g1⟩, fun D hD => lc_list (xs := ts.map V.ref) (fun n H' => H' = upd H2 D (.lst ((innOf G1 ((ts.zip (pairsIn T1 e.p.1 e.p.2)).take n)).map fun x => V.ref x.1))) rfl (fun n H' _ q => ?_) ?_ ?_⟩⟩
      · subst q
        exact SqL.of (same_upd hD _ _ g1)
      · rintro n v H3 hn rfl
        rw [List.getElem?_map] at hn
        obtain ⟨t, ht, rfl⟩ := Option.map_eq_some_iff.mp hn
        obtain ⟨q, hq, htq⟩ := all2_get g2 ht
        have hzn : (ts.zip (pairsIn T1 e.p.1 e.p.2))[n]? = some (t, q) := List.getElem?_zip_eq_some.mpr ⟨ht, hq⟩
        have sD := same_upd (o := HO.lst ((innOf G1 ((ts.zip (pairsIn T1 e.p.1 e.p.2)).take n)).map fun x => V.ref x.1)) hD
        have hk3 := sD _ _ (S2 _ _ hk1)
        have hG3 := sD _ _ (S2 _ _ hG1)
        have ht3 := sD _ _ htq
        have hlt : n < ts.length := (List.getElem?_eq_some_iff.mp ht).1
        have tk : innOf G1 ((ts.zip (pairsIn T1 e.p.1 e.p.2)).take (n + 1)) = innOf G1 ((ts.zip (pairsIn T1 e.p.1 e.p.2)).take n) ++ (if noted G1 q = true then [] else [(t, q)]) := by
          unfold innOf
          rw [List.take_add_one, hzn, List.filter_append]
          congr 1
          show List.filter _ [(t, q)] = _
          rw [List.filter_cons]
          cases noted G1 q <;> rfl
        refine ⟨rfl, ?_⟩
        refine ⟨_, rfl, ?_⟩
        refine rdFld (i := 0) (by rfl) hk3 T0.C.cl (nat _ (by simp)) (KO.l_agreed _) ?_
        refine ⟨o1.ga, _, rfl, DGet.t (k := prK q) hG3 ht3, _, rfl, ?_⟩
        cases hq2 : noted G1 q with
        | true =>
          have : (valV G1 (prK q)).isSome = true := hq2
          rw [this]
          refine iteF ?_
          rw [tk, hq2, if_pos rfl, List.append_nil]
        | false =>
          have : (valV G1 (prK q)).isSome = false := hq2
          rw [this]
          refine iteT ⟨_, rfl, _, upd_same, ?_, ?_⟩
          · have l1 := List.length_filter_le (fun x => !noted G1 x.2) ((ts.zip (pairsIn T1 e.p.1 e.p.2)).take n)
            have l2 : ((ts.zip (pairsIn T1 e.p.1 e.p.2)).take n).length ≤ (pairsIn T1 e.p.1 e.p.2).length := by rw [List.length_take, List.length_zip]; omega
            have l3 := costL_len (kAt T1) (pairsIn T1 e.p.1 e.p.2)
            have l4 := cost_pairs B1.wf helt.1 helt.2
            rw [List.length_map, sizeLine_eq]
            unfold innOf
            omega
          · rw [tk, hq2, if_neg (by decide), upd_upd, List.map_append]
            rfl
      · rintro H3 rfl
        have hzl : (ts.map V.ref).length = (ts.zip (pairsIn T1 e.p.1 e.p.2)).length := by rw [List.length_map, List.length_zip, g2.len]; omega
        rw [hzl, List.take_length]
        have sD := same_upd (o := HO.lst ((innOf G1 (ts.zip (pairsIn T1 e.p.1 e.p.2))).map fun x => V.ref x.1)) hD
        have S3 := S2.trans sD
        have hD3 : upd H2 D (.lst ((innOf G1 (ts.zip (pairsIn T1 e.p.1 e.p.2))).map fun x => V.ref x.1)) D = some (.lst ((innOf G1 (ts.zip (pairsIn T1 e.p.1 e.p.2))).map fun x => V.ref x.1)) := upd_same
        have hw3 := S3 _ _ hw1
        have hk3 := S3 _ _ hk1
        have B3 := B1.to (SameX.of S3)
        have hG3 := S3 _ _ hG1
        have ht3 := S3 _ _ hte
        generalize hH3 : upd H2 D (.lst ((innOf G1 (ts.zip (pairsIn T1 e.p.1 e.p.2))).map fun x => V.ref x.1)) = H3 at sD S3 hD3 hw3 hk3 B3 hG3 ht3 ⊢
        have inl : ∀ x ∈ innOf G1 (ts.zip (pairsIn T1 e.p.1 e.p.2)), x.2 ∈ pairsIn T1 e.p.1 e.p.2 := fun x hx => (List.of_mem_zip (show (x.1, x.2) ∈ _ from (List.mem_filter.mp hx).1)).2
        have inh : ∀ q ∈ pairsIn T1 e.p.1 e.p.2, noted G1 q = true ∨ ∃ x ∈ innOf G1 (ts.zip (pairsIn T1 e.p.1 e.p.2)), x.2 = q := fun q hq => by
          cases hn : noted G1 q with
          | true => exact .inl rfl
          | false =>
            obtain ⟨n, hn2⟩ := List.mem_iff_getElem?.mp hq
            have hlt : n < ts.length := by rw [g2.len]; exact (List.getElem?_eq_some_iff.mp hn2).1
            have hz : (ts.zip (pairsIn T1 e.p.1 e.p.2))[n]? = some (ts[n], q) := List.getElem?_zip_eq_some.mpr ⟨List.getElem?_eq_getElem hlt, hn2⟩
            exact .inr ⟨(ts[n], q), List.mem_filter.mpr ⟨List.mem_of_getElem? hz, by simp [hn]⟩, rfl⟩
        dsimp only [gName]
        refine ⟨_, rfl, _, .inl ⟨_, SqL.of hD3, rfl⟩, ?_⟩
        cases hinn : innOf G1 (ts.zip (pairsIn T1 e.p.1 e.p.2)) with
        | cons x0 inn =>
          refine iteT ?_
          have hex := S1.expand B1.wf inl inh
          have es0 : e.s = 0 := by
            rcases Nat.lt_or_ge e.s 2 with z | z
            · rcases Nat.lt_or_ge e.s 1 with y | y
              · omega
              · exfalso
                have hx0 : x0 ∈ innOf G1 (ts.zip (pairsIn T1 e.p.1 e.p.2)) := by rw [hinn]; simp
                rcases S1.one st0 [] e rfl (by omega) x0.2 (inl x0 hx0) with q | ⟨_, q, _⟩
                · have := (List.mem_filter.mp hx0).2
                  rw [q] at this
                  cases this
                · cases q
            · have := S1.two e (by simp) z
              rw [hno] at this
              cases this
          have hwe : wt T1 e = kcost (kAt T1 e.p.1) (kAt T1 e.p.2) := by unfold wt; rw [if_pos es0]
          have c1 := cost_pairs B1.wf helt.1 helt.2
          have c2 := inn_cost (kAt T1) G1 (ts.zip (pairsIn T1 e.p.1 e.p.2))
          have zs : (ts.zip (pairsIn T1 e.p.1 e.p.2)).map Prod.snd = pairsIn T1 e.p.1 e.p.2 := List.map_snd_zip (by rw [g2.len]; omega)
          rw [zs] at c2
          have w1 : wts T1 (st0 ++ [e]) = wts T1 st0 + (wt T1 e + 0) := wts_append T1 st0 [e]
          have w2 : wts T1 ((st0 ++ [{ e with s := 1 }]) ++ newE (innOf G1 (ts.zip (pairsIn T1 e.p.1 e.p.2)))) = wts T1 st0 + (2 + 0) + costL (kAt T1) ((innOf G1 (ts.zip (pairsIn T1 e.p.1 e.p.2))).map Prod.snd) := by
            rw [wts_append, wts_append, wts_new]
            rfl
          have w3 := wts_len T1 (st0 ++ [e])
          have w4 := costL_len (kAt T1) ((innOf G1 (ts.zip (pairsIn T1 e.p.1 e.p.2))).map Prod.snd)
          rw [List.length_map] at w4
          rw [List.length_append, List.length_singleton] at w3
          refine ⟨_, rfl, .inl ⟨rfl, _, SqL.of hw3⟩, _, rfl, wa, D, _, _, rfl, rfl, hw3, hD3, ?_, ?_⟩
          · simp only [List.length_append, List.length_map, List.length_singleton]
            rw [sizeLine_eq]
            omega
          have sU : SameX [wa] H3 (upd H3 wa (.lst (((st0.map fun e => V.ref e.a) ++ [V.ref e.a]) ++ (innOf G1 (ts.zip (pairsIn T1 e.p.1 e.p.2))).map fun x => V.ref x.1))) := samex_upd (by simp)
          have tupU : ∀ {b : Addr} {v : List V}, H3 b = some (.tup v) → upd H3 wa (.lst (((st0.map fun e => V.ref e.a) ++ [V.ref e.a]) ++ (innOf G1 (ts.zip (pairsIn T1 e.p.1 e.p.2))).map fun x => V.ref x.1)) b = some (.tup v) := fun h => sU _ _ (by
            have := ne_of h hw3 (fun z => nomatch z)
            simpa using this) h
          refine ⟨_, ?_, _, _, c6, T1, o1, G1, (st0 ++ [{ e with s := 1 }]) ++ newE (innOf G1 (ts.zip (pairsIn T1 e.p.1 e.p.2))), rfl, ⟨B3.toX sU wnk wnr wnn wnh (fun v z => by rw [hw3] at z; cases z), sU _ _ (by simpa using wng) hG3, hA1, h01, ex1, sam1, ?_, fun x hx => ?_, hex, rfl, by omega, by omega, fun b u hb hu => sU _ _ (by
              have : b ≠ wa := fun z => by rw [z, wf1] at hu; cases hu
              simpa using this) (S3 _ _ (sx1 _ _ hb hu)), wf1⟩⟩
          · omega
          · rw [upd_same, List.map_append, List.map_append]
            unfold newE
            rw [List.map_map]
            rfl
          · rcases List.mem_append.mp hx with z | z
            · rcases List.mem_append.mp z with z | z
              · exact tupU (S3 _ _ (ht1 x (by simp [z])))
              · have : x = { e with s := 1 } := by simpa using z
                rw [this]
                exact tupU ht3
            · obtain ⟨y, hy, z⟩ := List.mem_map.mp z
              rw [← z]
              obtain ⟨n, hn⟩ := List.mem_iff_getElem?.mp (List.mem_filter.mp hy).1
              obtain ⟨n1, n2⟩ := List.getElem?_zip_eq_some.mp hn
              obtain ⟨q, hq, hqq⟩ := all2_get g2 n1
              rw [n2] at hq
              injection hq with hq
              rw [← hq] at hqq
              exact tupU (sD _ _ hqq)
        | nil =>
          refine iteF ?_
          have alln : ∀ q ∈ pairsIn T1 e.p.1 e.p.2, ∃ v, valV G1 (prK q) = some v ∧ AgV T1 q v := fun q hq => by
            rcases inh q hq with z | ⟨x, z, _⟩
            · unfold noted at z
              obtain ⟨v, hv⟩ := Option.isSome_iff_exists.mp z
              exact ⟨v, hv, (hA1 q v hv).2.2⟩
            · rw [hinn] at z; cases z
          have c1 := cost_pairs B1.wf helt.1 helt.2
          have c3 := costL_len (kAt T1) (pairsIn T1 e.p.1 e.p.2)
          have w1 : wts T1 (st0 ++ [e]) = wts T1 st0 + (wt T1 e + 0) := wts_append T1 st0 [e]
          have hwe := wt_pos T1 e
          have hw2 : 2 ≤ wt T1 e := by
            have : ¬ 2 ≤ e.s := fun z => by
              have := S1.two e (by simp) z
              rw [hno] at this
              cases this
            unfold wt
            split
            · exact Nat.le_trans (by decide) (kcost_ge _ _)
            · rw [if_pos (by omega)]
              exact Nat.le_refl _
          dsimp only [sDPut, tMeth]
          refine ⟨_, rfl, k, dk, _, rfl, hk3, KO.l_joined _, _, rfl, k, e.a, T1, o1, G1, e.p.1, e.p.2, rfl, B3, ht3, hG3, helt.1, helt.2, h01, by omega, by omega, alln, fun H4 T4 o4 v gr B4 sam4 sx4 av => ?_⟩
          obtain ⟨⟨dk4, hk4⟩, _⟩ := id B4
          have g1' : o1.ga ≠ o1.ra := ne_of hG3 B3.rows (fun z => nomatch z)
          have g2' : o1.ga ≠ o1.na := ne_of hG3 B3.nums (fun z => nomatch z)
          have g3' : o1.ga ≠ o1.ha := ne_of hG3 B3.hol (fun z => nomatch z)
          have hG4 : H4 o4.ga = some (.dT G1) := by
            rw [sam4.2.2.2.2]
            exact sx4 _ _ (by simp [g1', g2', g3']) hG3
          have tup4 : ∀ {b : Addr} {v : List V}, H3 b = some (.tup v) → H4 b = some (.tup v) := fun {b v} h => by
            have n1 : b ≠ o1.ra := ne_of h B3.rows (fun z => nomatch z)
            have n2 : b ≠ o1.na := ne_of h B3.nums (fun z => nomatch z)
            have n3 : b ≠ o1.ha := ne_of h B3.hol (fun z => nomatch z)
            exact sx4 _ _ (by simp [n1, n2, n3]) h
          have hw4 : H4 wa = some (.lst ((st0.map fun e => V.ref e.a) ++ [V.ref e.a])) := sx4 _ _ (by simp [Ne.symm wnr, Ne.symm wnn, Ne.symm wnh]) hw3
          refine rdFld (i := 0) (by rfl) hk4 T0.C.cl (nat _ (by simp)) (KO.l_agreed _) ?_
          refine ⟨_, rfl, o4.ga, _, rfl, DPut.t (k := prK e.p) hG4 (tup4 ht3) (by rw [sizeLine_eq]; omega), ?_⟩
          have sU : SameX [o4.ga] H4 (upd H4 o4.ga (.dT (putK G1 (prK e.p) v))) := samex_upd (by simp)
          have m1 : k ≠ o4.ga := ne_of hk4 hG4 (fun z => nomatch z)
          have m2 : o4.ra ≠ o4.ga := ne_of B4.rows hG4 (fun z => nomatch z)
          have m3 : o4.na ≠ o4.ga := ne_of B4.nums hG4 (fun z => nomatch z)
          have m4 : o4.ha ≠ o4.ga := ne_of B4.hol hG4 (fun z => nomatch z)
          have m5 : wa ≠ o4.ga := ne_of hw4 hG4 (fun z => nomatch z)
          have w5 : wts T4 (st0 ++ [{ e with s := 2 }]) = wts T1 st0 + (1 + 0) := by
            rw [wts_append, gr.wts (l := st0) (fun x hx => S1.lt x (by simp [hx]))]
            rfl
          have hg1 := gr.le1
          have hpk := length_putK G1 (prK e.p) v
          have mp : (st0 ++ [{ e with s := 2 }]).map (fun (e : Ent) => V.ref e.a) = (st0.map fun e => V.ref e.a) ++ [V.ref e.a] := by rw [List.map_append]; rfl
          refine ⟨_, ?_, _, _, c6, T4, o4, putK G1 (prK e.p) v, st0 ++ [{ e with s := 2 }], rfl, ⟨B4.toX sU m1 m2 m3 m4 (fun v z => by rw [hG4] at z; cases z), upd_same, fun q u hq => ?_, ?_, ex1.grow gr, KO.sameAs_trans sam1 sam4, ?_, fun x hx => ?_, S1.note gr v, rfl, by omega, by omega, fun b u hb hu => ?_, wf1⟩⟩
          · omega
          · rw [valV_put] at hq
            by_cases z : prK q = prK e.p
            · rw [if_pos z] at hq
              injection hq with hq
              have := prK_inj z
              subst this hq
              exact ⟨Nat.lt_of_lt_of_le helt.1 gr.len, Nat.lt_of_lt_of_le helt.2 gr.len, av⟩
            · rw [if_neg z] at hq
              obtain ⟨y1, y2, y3⟩ := hA1 q u hq
              exact ⟨Nat.lt_of_lt_of_le y1 gr.len, Nat.lt_of_lt_of_le y2 gr.len, y3.grows gr y1 y2⟩
          · rw [gr.rowAt (Nat.lt_of_le_of_lt (Nat.zero_le _) helt.1)]
            exact h01
          · rw [mp]
            exact sU _ _ (by simpa using m5) hw4
          · have tx : ∀ {b : Addr} {v' : List V}, H4 b = some (.tup v') → upd H4 o4.ga (.dT (putK G1 (prK e.p) v)) b = some (.tup v') := fun h => sU _ _ (by
              have := ne_of h hG4 (fun z => nomatch z)
              simpa using this) h
            rcases List.mem_append.mp hx with z | z
            · exact tx (tup4 (S3 _ _ (ht1 x (by simp [z]))))
            · have : x = { e with s := 2 } := by simpa using z
              rw [this]
              exact tx (tup4 ht3)
          · have h3 := S3 _ _ (sx1 _ _ hb hu)
            simp only [List.mem_cons, List.not_mem_nil, or_false, not_or] at hb
            obtain ⟨b1, b2, b3, b4⟩ := hb
            have e4 : o4.ga = o.ga := (KO.sameAs_trans sam1 sam4).2.2.2.2
            refine sU _ _ (by rw [e4]; simpa using b4) (sx4 _ _ ?_ h3)
            rw [sam1.1, sam1.2.1, sam1.2.2.1]
            simp [b1, b2, b3]
end
end Hs
end
section
set_option Elab.async false
set_option linter.all false
set_option maxRecDepth 100000
set_option maxHeartbeats 4000000
namespace Hs
open PySem PySem.Spec PyProof.Rows L2 Kt Nest
/-- the rows that every table begins with -/
def T7 : List Rw := [.nothing, .plain 0, .plain 1, .plain 2, .plain 3, .plain 4, .plain 5]
theorem T7_nd : T7.Nodup := by decide +kernel
theorem T7_ok : ∀ r ∈ T7, KeyOk r ∧ r.parts = [] ∧ namesS r = [] ∧ ∀ ns ps, r ≠ .record ns ps := by
  intro r hr
  have : r = .nothing ∨ ∃ k, k < 6 ∧ r = .plain k := by
    simp only [T7, List.mem_cons, List.not_mem_nil, or_false] at hr
    rcases hr with e | e | e | e | e | e | e
    · exact .inl e
    · exact .inr ⟨0, by decide, e⟩
    · exact .inr ⟨1, by decide, e⟩
    · exact .inr ⟨2, by decide, e⟩
    · exact .inr ⟨3, by decide, e⟩
    · exact .inr ⟨4, by decide, e⟩
    · exact .inr ⟨5, by decide, e⟩
  rcases this with e | ⟨k, hk, e⟩
  · subst e
    exact ⟨trivial, rfl, rfl, fun _ _ h => nomatch h⟩
  · subst e
    exact ⟨hk, rfl, rfl, fun _ _ h => nomatch h⟩
/-- a name of the top that stands for a tuple -/
def TupT (K : PySem.W.Frag) (mg : Str → Option Value) (x : Str) (xs : List V) : Prop := ∃ a, mg x = some (.ref a) ∧ ∀ H, SqT K H a xs
section
variable {P : Program} {w : World} {K : PySem.W.Frag} {mg : Str → Option Value} {base : Heap}
def spKInit (P : Program) (w : World) (K : PySem.W.Frag) : Sp := fun vs H Q _ => ∃ (x dx : Addr), vs = [.ref x] ∧ H x = some (.ins (CKd K) dx []) ∧
  ∀ H' o, SameX [x] H H' → KTab P w K H' x T7 o → H' o.ga = some (.dT []) → H o.ra = none → H o.na = none → H o.ha = none → H o.ga = none → Q .non H'
theorem ok_kInit (T0 : TKd K mg) (hP : TupT K mg "PLAIN_KINDS" (T7.map fun r => V.str (formS r))) : FnOk P w K mg base CX0 2 (ma K "Kinds" "__init__") (fdA K (ma K "Kinds" "__init__")) ["self"] (spKInit P w K) := by
  obtain ⟨pk, hpk, hsq⟩ := hP
  have GN : FnOk P w K mg base CX0 1 (ma K "Kinds" "number_of") (fdA K (ma K "Kinds" "number_of")) ["self", "form", "names", "parts"] (spNum P w K) := ok_number_of T0
  have bN := b_Kinds_number_of T0.number_of.f
  refine T0.I.f.ok sc_Kinds___init__ (fun vs H Q E h => by obtain ⟨_, _, rfl, _⟩ := h; rfl) (fun cdv A outer s H vs Q E hr h => ⟨_, PSs.nox
    (pss_cons (ps_fld (pv 0) (pe_lst pa_nil) rfl)
    (pss_cons (ps_fld (pv 0) pe_dnewR rfl)
    (pss_cons (ps_fld (pv 0) (pe_lst pa_nil) rfl)
    (pss_cons (ps_fld (pv 0) pe_dnewK rfl)
    (pss_cons (ps_fld (pv 0) pe_dnewT rfl)
    (pss_one (ps_for PassesOwn.never rfl (pi_tup (pe_glob (v := .ref pk) rfl hpk rfl)) (pg_name (i := 1) sc_Kinds___init__.nd rfl (Or.inl rfl))
      (pss_one (ps_expr (pe_meth (pv 0) T0.C.cl T0.number_of.me GN hr bN .nil pass0 (pa_cons (pv 1) (pa_cons (pe_tup pa_nil) (pa_cons (pe_tup pa_nil) pa_nil))))))))))))), ?_⟩)
  obtain ⟨x, dx, rfl, hx, kQ⟩ := h
  have nat := fun f h => T0.n f h
  dsimp only [cxOf, Cx.nox]
  have l0 : ([] : List (Str × V)).length ≤ 0 := Nat.le_refl _
  refine ⟨nil_le, fun ra f1 => ?_⟩
  refine ⟨_, rfl, x, _, dx, _, rfl, (same_upd f1) _ _ hx, T0.C.cl, nat _ (by simp), by decide, ?_⟩
  have l1 := putF_le (f := "rows") (v := .ref ra) l0
  intro na f2
  refine ⟨_, rfl, x, _, dx, _, rfl, (same_upd f2) _ _ upd_same, T0.C.cl, nat _ (by simp), by omega, ?_⟩
  have l2 := putF_le (f := "numbers") (v := .ref na) l1
  refine ⟨nil_le, fun ha f3 => ?_⟩
  refine ⟨_, rfl, x, _, dx, _, rfl, (same_upd f3) _ _ upd_same, T0.C.cl, nat _ (by simp), by omega, ?_⟩
  have l3 := putF_le (f := "hollow") (v := .ref ha) l2
  intro sa f4
  refine ⟨_, rfl, x, _, dx, _, rfl, (same_upd f4) _ _ upd_same, T0.C.cl, nat _ (by simp), by omega, ?_⟩
  have l4 := putF_le (f := "sorts") (v := .ref sa) l3
  intro ga f5
  refine ⟨_, rfl, x, _, dx, _, rfl, (same_upd f5) _ _ upd_same, T0.C.cl, nat _ (by simp), by omega, ?_⟩
  have xra : x ≠ ra := fun z => by rw [← z, hx] at f1; cases f1
  obtain ⟨n1, f2⟩ := none_upd f2
  obtain ⟨n2, f2⟩ := none_upd f2
  obtain ⟨n3, f3⟩ := none_upd f3
  obtain ⟨n4, f3⟩ := none_upd f3
  obtain ⟨n5, f3⟩ := none_upd f3
  obtain ⟨n6, f3⟩ := none_upd f3
  obtain ⟨n7, f4⟩ := none_upd f4
  obtain ⟨n8, f4⟩ := none_upd f4
  obtain ⟨n9, f4⟩ := none_upd f4
  obtain ⟨n10, f4⟩ := none_upd f4
  obtain ⟨n11, f4⟩ := none_upd f4
  obtain ⟨n12, f4⟩ := none_upd f4
  obtain ⟨m1, f5⟩ := none_upd f5
  obtain ⟨m2, f5⟩ := none_upd f5
  obtain ⟨m3, f5⟩ := none_upd f5
  obtain ⟨m4, f5⟩ := none_upd f5
  obtain ⟨m5, f5⟩ := none_upd f5
  obtain ⟨m6, f5⟩ := none_upd f5
  obtain ⟨m7, f5⟩ := none_upd f5
  obtain ⟨m8, f5⟩ := none_upd f5
  generalize hH5 : upd (upd _ ga _) x _ = H5
  have e1 : H5 x = some (.ins (CKd K) dx (KO.fs ⟨ra, na, ha, sa, ga, []⟩)) := by rw [← hH5, upd_same]; rfl
  have e2 : H5 ga = some (.dT []) := by rw [← hH5, upd_ne m1, upd_same]
  have e3 : H5 ha = some (.lst []) := by
    rw [← hH5, upd_ne n3, upd_ne (Ne.symm m4), upd_ne n3, upd_ne (Ne.symm n8), upd_ne n3, upd_same]
  have e4 : H5 na = some (rowHO P w na []) := by
    rw [← hH5, upd_ne n1, upd_ne (Ne.symm m6), upd_ne n1, upd_ne (Ne.symm n10), upd_ne n1, upd_ne (Ne.symm n4), upd_ne n1, upd_same]
  have e5 : H5 ra = some (.lst []) := by
    rw [← hH5, upd_ne (Ne.symm xra), upd_ne (Ne.symm m8), upd_ne (Ne.symm xra), upd_ne (Ne.symm n12), upd_ne (Ne.symm xra), upd_ne (Ne.symm n6), upd_ne (Ne.symm xra), upd_ne (Ne.symm n2), upd_ne (Ne.symm xra), upd_same]
  have S5 : SameX [x] H H5 := fun b u nb hb => by
    have b0 : b ≠ x := by simpa using nb
    have b1 : b ≠ ra := fun z => by rw [z, f1] at hb; cases hb
    have b2 : b ≠ na := fun z => by rw [z, f2] at hb; cases hb
    have b3 : b ≠ ha := fun z => by rw [z, f3] at hb; cases hb
    have b4 : b ≠ sa := fun z => by rw [z, f4] at hb; cases hb
    have b5 : b ≠ ga := fun z => by rw [z, f5] at hb; cases hb
    rw [← hH5, upd_ne b0, upd_ne b5, upd_ne b0, upd_ne b4, upd_ne b0, upd_ne b3, upd_ne b0, upd_ne b2, upd_ne b0, upd_ne b1]
    exact hb
  have B5 : KTab P w K H5 x [] ⟨ra, na, ha, sa, ga, []⟩ := ⟨⟨dx, e1⟩, e5, (fun i a r h1 h2 => by simp at h2), e4, e3, rfl, ⟨fun i r h => by simp at h, List.nodup_nil⟩, (fun r h => by cases h), Ne.symm n6⟩
  clear hH5
  refine ⟨pk, rfl, ⟨_, hsq _⟩, ?_⟩
  refine for_tup (xs := T7.map fun r => V.str (formS r)) (fun i σ H' => ∃ c1 o, σ = [some (V.ref x), c1] ∧ KTab P w K H' x (T7.take i) o ∧ (KO.mk ra na ha sa ga []).sameAs o ∧ H' ga = some (.dT []) ∧ SameX [x] H H') ⟨none, _, rfl, B5, ⟨rfl, rfl, rfl, rfl, rfl⟩, e2, S5⟩ (fun i σ H' _ _ => hsq H') ?_ ?_
  · rintro i y σ H' hy ⟨c1, o, rfl, B, hs, hg, S⟩
    rw [List.getElem?_map] at hy
    obtain ⟨r, hr0, rfl⟩ := Option.map_eq_some_iff.mp hy
    obtain ⟨r1, r2, r3, r4⟩ := T7_ok r (List.mem_of_getElem? hr0)
    obtain ⟨⟨dk, hk⟩, _⟩ := id B
    refine ⟨_, rfl, x, dk, _, rfl, hk, o.l_number_of, _, rfl, nil_le, fun nA q1 => ⟨nil_le, fun pA q2 => ?_⟩⟩
    have s1 := same_upd (o := HO.tup []) q1
    have s2 := same_upd (o := HO.tup []) q2
    have il : i < T7.length := by
      rw [List.getElem?_eq_some_iff] at hr0
      exact hr0.1
    have tl : (T7.take i).length = i := by rw [List.length_take]; omega
    refine ⟨x, nA, pA, T7.take i, o, r, rfl, B.to (SameX.of (s1.trans s2)), ?_, ?_, ⟨fun p hp => (by rw [r2] at hp; cases hp), fun ns ps e => absurd e (r4 ns ps)⟩, r1, ?_, ?_, fun H2 T2 o2 j hT hj B2 hs2 sx => ?_⟩
    · rw [r3]
      exact s2 _ _ upd_same
    · rw [r2]
      exact upd_same
    · rw [tl]
      have : T7.length = 7 := rfl
      omega
    · rw [r2]
      decide
    have ht : T7.take (i + 1) = T7.take i ++ [r] := by rw [List.take_add_one, hr0]; rfl
    have hnm : r ∉ T7.take i := fun h => by
      have q : (T7.take (i + 1)).Nodup := T7_nd.sublist (List.take_sublist _ _)
      rw [ht, List.nodup_append] at q
      exact q.2.2 r h r (by simp) rfl
    have hT2 : T2 = T7.take (i + 1) := by
      rcases hT with z | z
      · rw [z] at hj
        exact absurd (List.mem_of_getElem? hj) hnm
      · rw [z, ht]
    subst hT2
    obtain ⟨g1, g2, g3, g4, g5⟩ := hs
    obtain ⟨k1, k2, k3, k4, k5⟩ := hs2
    have a1 : o.ra = ra := g1
    have a2 : o.na = na := g2
    have a3 : o.ha = ha := g3
    have a4 : o.sa = sa := g4
    have a5 : o.ga = ga := g5
    have S2 : SameX [ra, na, ha] H' H2 := fun b u nb hb => sx _ _ (by rw [a1, a2, a3]; exact nb) (s2 _ _ (s1 _ _ hb))
    refine ⟨_, o2, rfl, B2, ⟨k1.trans a1, k2.trans a2, k3.trans a3, k4.trans a4, k5.trans a5⟩, S2 _ _ (by simp [m8, m6, m4]) hg, fun b u nb hb => S2 _ _ ?_ (S _ _ nb hb)⟩
    have b1 : b ≠ ra := fun z => by rw [z, f1] at hb; cases hb
    have b2 : b ≠ na := fun z => by rw [z, f2] at hb; cases hb
    have b3 : b ≠ ha := fun z => by rw [z, f3] at hb; cases hb
    simp [b1, b2, b3]
  · rintro σ H' ⟨c1, o, rfl, B, ⟨g1, g2, g3, g4, g5⟩, hg, S⟩
    have : T7.take (T7.map fun r => V.str (formS r)).length = T7 := rfl
    rw [this] at B
    exact kQ H' o S B (by rw [g5]; exact hg) (by rw [g1]; exact f1) (by rw [g2]; exact f2) (by rw [g3]; exact f3) (by rw [g5]; exact f5)
end
end Hs
end
section
set_option Elab.async false
set_option linter.all false
set_option maxRecDepth 100000
set_option maxHeartbeats 2000000
namespace Hs
open PySem PySem.Spec PyProof.Rows L2 Kt Nest
abbrev CW (K : PySem.W.Frag) : Addr := ga K "Writer"
structure TWr (K : PySem.W.Frag) (mg : Str → Option Value) : Prop where
  C : ClT K mg "Writer"
  I : MeT K "Writer" "__init__" "Writer.__init__" s_Writer___init__
  n : ∀ f ∈ (["codes"] : List Str), NoAttr K (CW K) f
  put_varying : MeT K "Writer" "put_varying" "Writer.put_varying" s_Writer_put_varying
  put_signs : MeT K "Writer" "put_signs" "Writer.put_signs" s_Writer_put_signs
  put_text : MeT K "Writer" "put_text" "Writer.put_text" s_Writer_put_text
  put_record : MeT K "Writer" "put_record" "Writer.put_record" s_Writer_put_record
  TEXT : IntT mg "TEXT" 4
  RECORD : IntT mg "RECORD" 6
  len : mg "len" = none
  ord : mg "ord" = none
def wrF (cl : Addr) : List (Str × V) := [("codes", .ref cl)]
theorem wrF_codes {cl : Addr} : (wrF cl).lookup ("codes" : Str) = some (.ref cl) := by kernel_rfl
theorem wrF_varying {cl : Addr} : (wrF cl).lookup ("put_varying" : Str) = none := by kernel_rfl
theorem wrF_signs {cl : Addr} : (wrF cl).lookup ("put_signs" : Str) = none := by kernel_rfl
theorem wrF_text {cl : Addr} : (wrF cl).lookup ("put_text" : Str) = none := by kernel_rfl
theorem wrF_record {cl : Addr} : (wrF cl).lookup ("put_record" : Str) = none := by kernel_rfl
/-- a writer that has put these bytes -/
structure WrAt (K : PySem.W.Frag) (H : Hp) (wr cl : Addr) (b : Sw.Bytes) : Prop where
  self : ∃ dx, H wr = some (.ins (CW K) dx (wrF cl))
  codes : H cl = some (.lst (byV b))
theorem WrAt.to {K : PySem.W.Frag} {H H' : Hp} {wr cl : Addr} {b : Sw.Bytes} (W : WrAt K H wr cl b) (s : Same H H') : WrAt K H' wr cl b := by
  obtain ⟨⟨dx, q1⟩, q2⟩ := W
  exact ⟨⟨dx, s _ _ q1⟩, s _ _ q2⟩
theorem WrAt.put {K : PySem.W.Frag} {H : Hp} {wr cl : Addr} {b : Sw.Bytes} (W : WrAt K H wr cl b) (c : Sw.Bytes) : WrAt K (upd H cl (.lst (byV (b ++ c)))) wr cl (b ++ c) := by
  obtain ⟨⟨dx, q1⟩, q2⟩ := W
  exact ⟨⟨dx, by rw [upd_ne (ne_of q1 q2 (fun z => nomatch z))]; exact q1⟩, upd_same⟩
theorem byV_append (b c : Sw.Bytes) : byV (b ++ c) = byV b ++ byV c := by
  unfold byV
  rw [List.map_append]
theorem vary_small {n : Nat} (h : n < 128) : Sw.vary n = [UInt8.ofNat n] := by rw [Sw.vary, if_pos h]
theorem vary_big {n : Nat} (h : ¬ n < 128) : Sw.vary n = UInt8.ofNat (128 + n % 128) :: Sw.vary (n / 128) := by rw [Sw.vary, if_neg h]
section
variable {P : Program} {w : World} {K : PySem.W.Frag} {mg : Str → Option Value} {base : Heap}
def spPutV (K : PySem.W.Frag) : Sp := fun vs H Q _ => ∃ (wr cl : Addr) (b : Sw.Bytes) (n : Nat), vs = [.ref wr, .int (n : Int)] ∧ WrAt K H wr cl b ∧ b.length + (Sw.vary n).length < 4000000 ∧ ∀ H', SameX [cl] H H' → WrAt K H' wr cl (b ++ Sw.vary n) → Q .non H'
theorem ok_put_varying (T : TWr K mg) : FnOk P w K mg base CX0 1 (ma K "Writer" "put_varying") (fdA K (ma K "Writer" "put_varying")) ["self", "number"] (spPutV K) := by
  refine T.put_varying.f.ok sc_Writer_put_varying (fun vs H Q E h => by obtain ⟨_, _, _, _, rfl, _⟩ := h; rfl) (fun cdv A outer s H vs Q E hr h => ⟨_, PSs.nox
    (pss_cons (ps_while PassesOwn.never (pt_cmpR op_gt (pv 1) pe_int (nomark _))
      (pss_cons (ps_expr (pe_bm PySem.F.plainAttrs_list PySem.F.slot_list_append PySem.F.type_list_append mt_append (pe_fld (pv 0) rfl) (pa_cons (pe_op op_or (pe_op op_and (pv 1) pe_int) pe_int) pa_nil)))
      (pss_one (ps_set (i := 1) sc_Writer_put_varying.nd rfl (Or.inl rfl) (pe_op op_shr (pv 1) pe_int)))))
    (pss_one (ps_expr (pe_bm PySem.F.plainAttrs_list PySem.F.slot_list_append PySem.F.type_list_append mt_append (pe_fld (pv 0) rfl) (pa_cons (pv 1) pa_nil))))), ?_⟩)
  obtain ⟨wr, cl, b, n, rfl, W, hb, kQ⟩ := h
  have nat := fun f h => T.n f h
  dsimp only [cxOf, Cx.nox]
  refine ⟨fun m σ H' => ∃ (c : Sw.Bytes) (k : Nat), m = k ∧ σ = [some (V.ref wr), some (V.int (k : Int))] ∧ WrAt K H' wr cl (b ++ c) ∧ c ++ Sw.vary k = Sw.vary n ∧ SameX [cl] H H', ⟨n, [], n, rfl, rfl, by rw [List.append_nil]; exact W, rfl, SameX.refl _ _⟩, ?_⟩
  rintro m σ H1 ⟨c, k, rfl, rfl, W1, hc, s1⟩
  obtain ⟨⟨dx, h1⟩, h2⟩ := id W1
  have hlen : c.length + (Sw.vary m).length = (Sw.vary n).length := by rw [← hc, List.length_append]
  refine ⟨_, rfl, _, _, rfl, rfl, _, rfl, ?_⟩
  refine iteD (fun e => ?_) (fun e => ?_)
  · have hm : ¬ m < 128 := by omega
    rw [vary_big hm] at hc hlen
    simp only [List.length_cons] at hlen
    refine ⟨_, fun _ _ h => h, ?_⟩
    dsimp only [tSeq, tDrop, tBM]
    refine rdFld (i := 0) (by rfl) h1 T.C.cl (nat _ (by simp)) wrF_codes ?_
    refine ⟨.inl ⟨rfl, _, SqL.of h2⟩, _, rfl, _, _, rfl, rfl, _, _, rfl, rfl, cl, _, _, rfl, rfl, h2, ?_, ?_⟩
    · rw [byV_len, List.length_append, sizeLine_eq]
      omega
    have hv : Builtin.bitOr (Builtin.bitAnd (m : Int) 127) 128 = (((UInt8.ofNat (128 + m % 128)).toNat : Nat) : Int) := by
      have e1 : Builtin.bitAnd (m : Int) 127 = (m : Int) % 128 := Bits.bitAnd_mask (x := (m : Int)) 7 (by omega)
      rw [e1, show (128 : Int) = 1 * 2 ^ 7 from rfl]
      have e2 := Bits.bitOr_join (a := (m : Int) % (1 * 2 ^ 7)) (b := 1) (k := 7) (by omega) (by omega) (by omega)
      rw [e2]
      have e3 : (UInt8.ofNat (128 + m % 128)).toNat = 128 + m % 128 := by
        rw [UInt8.toNat_ofNat']
        omega
      rw [e3]
      omega
    have hsn : byV (b ++ c) ++ [V.int (Builtin.bitOr (Builtin.bitAnd (m : Int) 127) 128)] = byV (b ++ (c ++ [UInt8.ofNat (128 + m % 128)])) := by
      rw [hv, ← List.append_assoc, byV_append (b ++ c)]
      rfl
    rw [hsn]
    have W2 : WrAt K (upd H1 cl (.lst (byV (b ++ (c ++ [UInt8.ofNat (128 + m % 128)]))))) wr cl (b ++ (c ++ [UInt8.ofNat (128 + m % 128)])) := by
      have := W1.put [UInt8.ofNat (128 + m % 128)]
      rw [List.append_assoc] at this
      exact this
    have hd : (m : Int) / 2 ^ (7 : Int).toNat = ((m / 128 : Nat) : Int) := by
      show (m : Int) / 128 = _
      omega
    refine ⟨_, rfl, _, _, rfl, rfl, (show (0 : Int) ≤ 7 by decide), ?_⟩
    dsimp only [gName]
    rw [hd]
    exact ⟨m / 128, by omega, c ++ [UInt8.ofNat (128 + m % 128)], m / 128, rfl, rfl, W2, by rw [List.append_assoc]; exact hc, s1.trans (samex_upd (by simp))⟩
  · have hm : m < 128 := by omega
    rw [vary_small hm] at hc hlen
    simp only [List.length_cons, List.length_nil] at hlen
    dsimp only [tDrop, tBM]
    refine rdFld (i := 0) (by rfl) h1 T.C.cl (nat _ (by simp)) wrF_codes ?_
    refine ⟨.inl ⟨rfl, _, SqL.of h2⟩, _, rfl, cl, _, _, rfl, rfl, h2, ?_, ?_⟩
    · rw [byV_len, List.length_append, sizeLine_eq]
      omega
    have hsn : byV (b ++ c) ++ [V.int (m : Int)] = byV (b ++ Sw.vary n) := by
      rw [← hc, ← List.append_assoc, byV_append (b ++ c)]
      have : (UInt8.ofNat m).toNat = m := by rw [UInt8.toNat_ofNat']; omega
      show _ = _ ++ [V.int (((UInt8.ofNat m).toNat : Nat) : Int)]
      rw [this]
    rw [hsn]
    refine kQ _ (s1.trans (samex_upd (by simp))) ?_
    have := W1.put [UInt8.ofNat m]
    rw [List.append_assoc, hc] at this
    exact this
theorem lc_signs {x : Str} {g : TG} {tt : TT} {te : TE} {vs : List Nat} {σ : L2.St} {H1 : Hp} {D : Addr} {Qd : Hp → Prop} (Pv : Nat → Hp → Prop) (h0 : Pv 0 (upd H1 D (.lst [])))
    (hs : ∀ i c H, x.cps[i]? = some c → Pv i H → g (.str ⟨#[c]⟩) (wipe σ vs) H fun σ2 H2 => wipe σ2 vs = wipe σ vs ∧ tt σ2 H2 fun b H3 => if b = true then te σ2 H3 fun y H4 => ∃ acc, H4 D = some (.lst acc) ∧ acc.length < sizeLine ∧ Pv (i + 1) (upd H4 D (.lst (acc ++ [y]))) else Pv (i + 1) H3)
    (hd : ∀ H, Pv x.cps.size H → Qd H) :
    ∃ W : Nat → Nat → Hp → Prop, (∃ m, W 0 m (upd H1 D (.lst []))) ∧ ∀ i m H, W i m H → ((Its x).stop i H ∧ Qd H) ∨ ((Its x).go i H ∧ ∃ Nx : Hp → Prop, (∀ H', Nx H' → ∃ m', m' < m ∧ W (i + 1) m' H') ∧
      ∀ v H', (Its x).yld i H v H' → g v (wipe σ vs) H' fun σ2 H2 => wipe σ2 vs = wipe σ vs ∧ tt σ2 H2 fun b H3 => if b = true then te σ2 H3 fun y H4 => ∃ acc, H4 D = some (.lst acc) ∧ acc.length < sizeLine ∧ Nx (upd H4 D (.lst (acc ++ [y]))) else Nx H3) := by
  refine ⟨fun i m H => m = x.cps.size - i ∧ i ≤ x.cps.size ∧ Pv i H, ⟨x.cps.size, rfl, Nat.zero_le _, h0⟩, ?_⟩
  rintro i m H ⟨rfl, hi, p⟩
  by_cases hlt : i < x.cps.size
  · refine .inr ⟨hlt, Pv (i + 1), fun H' p' => ⟨x.cps.size - (i + 1), by omega, rfl, hlt, p'⟩, fun v H' y => ?_⟩
    obtain ⟨e, c, hc, e2⟩ := y
    subst e e2
    exact hs i c _ hc p
  · have e : i = x.cps.size := by omega
    subst e
    exact .inl ⟨Nat.le_refl _, hd H p⟩
/-- a row of signs by their codes -/
def asStr (b : Sw.Bytes) : Str := ⟨(b.map UInt8.toNat).toArray⟩
theorem asStr_len (b : Sw.Bytes) : (asStr b).length = b.length := by
  show (b.map UInt8.toNat).toArray.size = _
  simp
def spPutS (K : PySem.W.Frag) : Sp := fun vs H Q _ => ∃ (wr cl : Addr) (b c : Sw.Bytes), vs = [.ref wr, .str (asStr c)] ∧ WrAt K H wr cl b ∧ b.length + (Sw.vary c.length).length + c.length < 4000000 ∧ ∀ H', SameX [cl] H H' → WrAt K H' wr cl (b ++ (Sw.vary c.length ++ c)) → Q .non H'
theorem ok_put_signs (T : TWr K mg) : FnOk P w K mg base CX0 2 (ma K "Writer" "put_signs") (fdA K (ma K "Writer" "put_signs")) ["self", "text"] (spPutS K) := by
  have GV : FnOk P w K mg base CX0 1 (ma K "Writer" "put_varying") (fdA K (ma K "Writer" "put_varying")) ["self", "number"] (spPutV K) := ok_put_varying T
  have bV := b_Writer_put_varying T.put_varying.f
  refine T.put_signs.f.ok sc_Writer_put_signs (fun vs H Q E h => by obtain ⟨_, _, _, _, rfl, _⟩ := h; rfl) (fun cdv A outer s H vs Q E hr h => ⟨_, PSs.nox
    (pss_cons (ps_expr (pe_meth (pv 0) T.C.cl T.put_varying.me GV hr bV .nil pass0 (pa_cons (pe_callB call_len_str (by rfl) T.len PySem.boot_len (pa_cons (pv 1) pa_nil)) pa_nil)))
    (pss_one (ps_expr (pe_bm PySem.F.plainAttrs_list PySem.F.slot_list_extend PySem.F.type_list_extend mt_extend (pe_fld (pv 0) rfl) (pa_cons
      (pe_lc (own := [("sign", 2)]) (g := gName 2) (tt := tYes) rfl sc_Writer_put_signs.nd (pi_str (pv 1)) (blkOk_by (N := N_Writer_put_signs) (sc := defScope s_Writer_put_signs) (by decide +kernel)) (fun _ _ _ _ _ => pg_name (i := 2) sc_Writer_put_signs.nd rfl (Or.inl rfl)) (fun _ _ _ _ _ => pts_nil)
        (fun _ _ _ _ _ => by exact (pe_callB call_ord (by rfl) T.ord (by decide +kernel) (pa_cons (pv 2) pa_nil)))) pa_nil))))), ?_⟩)
  obtain ⟨wr, cl, b, c, rfl, W, hb, kQ⟩ := h
  have nat := fun f h => T.n f h
  dsimp only [cxOf, Cx.nox]
  obtain ⟨⟨dx, h1⟩, h2⟩ := id W
  refine ⟨_, rfl, wr, dx, _, rfl, h1, wrF_varying, _, rfl, ?_⟩
  have hl : (asStr c).length = c.length := asStr_len c
  refine ⟨_, rfl, by rw [hl, sizeLine_eq]; omega, ?_⟩
  rw [hl]
  refine ⟨wr, cl, b, c.length, rfl, W, by omega, fun H1 s1 W1 => ?_⟩
  obtain ⟨⟨dx1, h3⟩, h4⟩ := id W1
  dsimp only [tDrop, tBM]
  refine rdFld (i := 0) (by rfl) h3 T.C.cl (nat _ (by simp)) wrF_codes ?_
  refine ⟨.inl ⟨rfl, _, SqL.of h4⟩, ?_⟩
  refine ⟨_, rfl, asStr c, rfl, fun D hD => lc_signs (fun i H' => H' = upd H1 D (.lst (byV (c.take i)))) rfl (fun i v H' hi q => ?_) (fun H' q => ?_)⟩
  · subst q
    have hi' : c[i]?.map UInt8.toNat = some v := by
      have e : (asStr c).cps[i]? = (c.map UInt8.toNat)[i]? := by
        show (c.map UInt8.toNat).toArray[i]? = _
        simp
      rw [e, List.getElem?_map] at hi
      exact hi
    obtain ⟨x, hx, rfl⟩ := Option.map_eq_some_iff.mp hi'
    refine ⟨rfl, yesT ⟨_, rfl, _, rfl, rfl, _, upd_same, ?_, ?_⟩⟩
    · rw [byV_len, List.length_take, sizeLine_eq]
      omega
    · rw [upd_upd, List.take_add_one, hx, byV_append]
      rfl
  · subst q
    have hsz : (asStr c).cps.size = c.length := hl
    rw [hsz, List.take_length]
    have sD := same_upd (o := HO.lst (byV c)) hD
    refine ⟨cl, D, _, _, rfl, rfl, sD _ _ h4, upd_same, ?_, ?_⟩
    · rw [byV_len, byV_len, List.length_append, sizeLine_eq]
      omega
    · rw [← byV_append, List.append_assoc]
      refine kQ _ (s1.trans ((SameX.of sD).trans (samex_upd (by simp)))) ?_
      have := (W1.to sD).put c
      rw [List.append_assoc] at this
      exact this
def spPutT (K : PySem.W.Frag) : Sp := fun vs H Q _ => ∃ (wr cl : Addr) (b c : Sw.Bytes), vs = [.ref wr, .str (asStr c)] ∧ WrAt K H wr cl b ∧ b.length + (Sw.vary c.length).length + c.length < 3999999 ∧ ∀ H', SameX [cl] H H' → WrAt K H' wr cl (b ++ 4 :: (Sw.vary c.length ++ c)) → Q .non H'
theorem ok_put_text (T : TWr K mg) : FnOk P w K mg base CX0 3 (ma K "Writer" "put_text") (fdA K (ma K "Writer" "put_text")) ["self", "text"] (spPutT K) := by
  have GS : FnOk P w K mg base CX0 2 (ma K "Writer" "put_signs") (fdA K (ma K "Writer" "put_signs")) ["self", "text"] (spPutS K) := ok_put_signs T
  have bS := b_Writer_put_signs T.put_signs.f
  refine T.put_text.f.ok sc_Writer_put_text (fun vs H Q E h => by obtain ⟨_, _, _, _, rfl, _⟩ := h; rfl) (fun cdv A outer s H vs Q E hr h => ⟨_, PSs.nox
    (pss_cons (ps_expr (pe_bm PySem.F.plainAttrs_list PySem.F.slot_list_append PySem.F.type_list_append mt_append (pe_fld (pv 0) rfl) (pa_cons (pe_intT T.TEXT) pa_nil)))
    (pss_one (ps_expr (pe_meth (pv 0) T.C.cl T.put_signs.me GS hr bS .nil pass0 (pa_cons (pv 1) pa_nil))))), ?_⟩)
  obtain ⟨wr, cl, b, c, rfl, W, hb, kQ⟩ := h
  have nat := fun f h => T.n f h
  dsimp only [cxOf, Cx.nox]
  obtain ⟨⟨dx, h1⟩, h2⟩ := id W
  dsimp only [tSeq, tDrop, tBM]
  refine rdFld (i := 0) (by rfl) h1 T.C.cl (nat _ (by simp)) wrF_codes ?_
  refine ⟨.inl ⟨rfl, _, SqL.of h2⟩, cl, _, _, rfl, rfl, h2, by rw [byV_len, sizeLine_eq]; omega, ?_⟩
  have W1 := W.put [4]
  have e : byV b ++ [V.int 4] = byV (b ++ [4]) := by rw [byV_append]; rfl
  rw [e]
  obtain ⟨⟨dx1, h3⟩, _⟩ := id W1
  refine ⟨_, rfl, wr, dx1, _, rfl, h3, wrF_signs, _, rfl, wr, cl, b ++ [4], c, rfl, W1, by rw [List.length_append, List.length_singleton]; omega, fun H2 s2 W2 => ?_⟩
  rw [List.append_assoc] at W2
  exact kQ _ ((samex_upd (by simp)).trans s2) W2
def spPutR (K : PySem.W.Frag) : Sp := fun vs H Q _ => ∃ (wr cl : Addr) (b : Sw.Bytes) (n : Nat), vs = [.ref wr, .int (n : Int)] ∧ WrAt K H wr cl b ∧ b.length + (Sw.vary n).length < 3999999 ∧ ∀ H', SameX [cl] H H' → WrAt K H' wr cl (b ++ 6 :: Sw.vary n) → Q .non H'
theorem ok_put_record (T : TWr K mg) : FnOk P w K mg base CX0 2 (ma K "Writer" "put_record") (fdA K (ma K "Writer" "put_record")) ["self", "size"] (spPutR K) := by
  have GV : FnOk P w K mg base CX0 1 (ma K "Writer" "put_varying") (fdA K (ma K "Writer" "put_varying")) ["self", "number"] (spPutV K) := ok_put_varying T
  have bV := b_Writer_put_varying T.put_varying.f
  refine T.put_record.f.ok sc_Writer_put_record (fun vs H Q E h => by obtain ⟨_, _, _, _, rfl, _⟩ := h; rfl) (fun cdv A outer s H vs Q E hr h => ⟨_, PSs.nox
    (pss_cons (ps_expr (pe_bm PySem.F.plainAttrs_list PySem.F.slot_list_append PySem.F.type_list_append mt_append (pe_fld (pv 0) rfl) (pa_cons (pe_intT T.RECORD) pa_nil)))
    (pss_one (ps_expr (pe_meth (pv 0) T.C.cl T.put_varying.me GV hr bV .nil pass0 (pa_cons (pv 1) pa_nil))))), ?_⟩)
  obtain ⟨wr, cl, b, n, rfl, W, hb, kQ⟩ := h
  have nat := fun f h => T.n f h
  dsimp only [cxOf, Cx.nox]
  obtain ⟨⟨dx, h1⟩, h2⟩ := id W
  dsimp only [tSeq, tDrop, tBM]
  refine rdFld (i := 0) (by rfl) h1 T.C.cl (nat _ (by simp)) wrF_codes ?_
  refine ⟨.inl ⟨rfl, _, SqL.of h2⟩, cl, _, _, rfl, rfl, h2, by rw [byV_len, sizeLine_eq]; omega, ?_⟩
  have W1 := W.put [6]
  have e : byV b ++ [V.int 6] = byV (b ++ [6]) := by rw [byV_append]; rfl
  rw [e]
  obtain ⟨⟨dx1, h3⟩, _⟩ := id W1
  refine ⟨_, rfl, wr, dx1, _, rfl, h3, wrF_varying, _, rfl, wr, cl, b ++ [6], n, rfl, W1, by rw [List.length_append, List.length_singleton]; omega, fun H2 s2 W2 => ?_⟩
  rw [List.append_assoc] at W2
  exact kQ _ ((samex_upd (by simp)).trans s2) W2
end
end Hs
end
section
set_option Elab.async false
set_option linter.all false
set_option maxRecDepth 100000
set_option maxHeartbeats 2000000
namespace Hs
open PySem PySem.Spec PyProof.Rows L2 Kt Nest
structure TTk (K : PySem.W.Frag) (mg : Str → Option Value) : Prop where
  is_name : FnT K mg "is_name" s_is_name
  is_token : FnT K mg "is_token" s_is_token
  SMALL : StrT mg "SMALL" smallT
  FIGURES : StrT mg "FIGURES" figT
  LONGEST_NAME : IntT mg "LONGEST_NAME" 64
  len : mg "len" = none
  all : mg "all" = none
def tokB (t f g : List Nat) : Bool := match t with
  | [] => false
  | c :: r => decide ((c :: r).length ≤ 64) && (decide (c ∈ f) && (c :: r).all fun x => decide (x ∈ g))
section
variable {P : Program} {w : World} {K : PySem.W.Frag} {mg : Str → Option Value} {base : Heap}
theorem dec_str0 (a b : Str) : decide (V.str a = V.str b) = decide (a = b) := by
  by_cases e : a = b
  · rw [e, decide_eq_true rfl, decide_eq_true rfl]
  · rw [decide_eq_false e, decide_eq_false (fun q => e (V.str.inj q))]
def spTok : Sp := fun vs H Q _ => ∃ t f g : Str, vs = [.str t, .str f, .str g] ∧ t.length ≤ 1000000 ∧ ∀ H', Same H H' → Q (.bl (tokB t.cps.toList f.cps.toList g.cps.toList)) H'
theorem ok_is_token (T : TTk K mg) : FnOk P w K mg base CX0 1 (ga K "is_token") (fdA K (ga K "is_token")) ["text", "first", "further"] spTok := by
  refine T.is_token.f.ok sc_is_token (fun vs H Q E h => by obtain ⟨_, _, _, rfl, _⟩ := h; rfl) (fun cdv A outer s H vs Q E hr h => ⟨_, PSs.nox
    (pss_cons (ps_if (PW.pt (pw_or (pt_cmpR op_eq (pv 0) pe_str (nomark _)) (pw_or (pt_cmpR op_gt (pe_callB call_len_str (by rfl) T.len PySem.boot_len (pa_cons (pv 0) pa_nil)) (pe_intT T.LONGEST_NAME) (nomark _)) (pw_or1 (pt_cmpR op_notin_str (pe_ix ix_str (pv 0) pe_int (fun _ _ => rfl)) (pv 1) (by rfl))))))
      (pss_one (ps_ret pe_bl)) pss_nil)
    (pss_one (ps_ret (pe_callB (cr_all rfl) (by rfl) T.all (by decide +kernel) (pa_cons
      (pe_lc (own := [("sign", 3)]) (g := gName 3) (tt := tYes) rfl sc_is_token.nd (pi_str (pv 0)) (blkOk_by (N := N_is_token) (sc := defScope s_is_token) (by decide +kernel)) (fun _ _ _ _ _ => pg_name (i := 3) sc_is_token.nd rfl (Or.inl rfl)) (fun _ _ _ _ _ => pts_nil)
        (fun _ _ _ _ _ => by exact (pe_cmpR op_in_str (pv 3) (pv 2) (by rfl)))) pa_nil))))), ?_⟩)
  obtain ⟨t, f, g, rfl, ht, kQ⟩ := h
  dsimp only [cxOf, Cx.nox]
  dsimp only [tSeq, tIfS, tOr, tTest, tOp]
  refine ⟨_, rfl, rfl, _, rfl, ?_⟩
  rw [dec_str0]
  obtain ⟨⟨l⟩⟩ := t
  have htl : l.length ≤ 1000000 := ht
  cases l with
  | nil =>
    rw [decide_eq_true (show (⟨⟨([] : List Nat)⟩⟩ : Str) = "" from rfl)]
    exact iteT (iteT (kQ H (fun _ _ h => h)))
  | cons c r =>
    rw [decide_eq_false (show ¬ (⟨⟨c :: r⟩⟩ : Str) = "" from fun z => by injection z with z; injection z with z; cases z)]
    refine iteF ?_
    have hl : (⟨⟨c :: r⟩⟩ : Str).length = r.length + 1 := rfl
    refine ⟨_, rfl, _, rfl, by rw [hl, sizeLine_eq]; omega, _, _, rfl, rfl, _, rfl, ?_⟩
    rw [hl]
    by_cases h64 : r.length + 1 ≤ 64
    · rw [decide_eq_false (show ¬ ((64 : Int) < ((r.length + 1 : Nat) : Int)) by omega)]
      refine iteF ?_
      refine ⟨_, rfl, _, _, c, rfl, rfl, by rw [hl, sizeLine_eq]; omega, (atI_nat (xs := c :: r) (j := 0) rfl), _, rfl, _, _, rfl, rfl, _, rfl, ?_⟩
      rw [PySem.StrLaws.found_one]
      by_cases hc : c ∈ f.cps.toList
      · rw [decide_eq_true hc]
        refine iteF ?_
        dsimp only [tNext, tRet, tCB, tCons, tNil]
        refine ⟨_, rfl, _, rfl, fun D hD => lc_signs (fun i H' => H' = upd H D (.lst (((c :: r).take i).map fun x => V.bl (decide (x ∈ g.cps.toList))))) rfl (fun i v H' hi q => ?_) (fun H' q => ?_)⟩
        · subst q
          have hi' : (c :: r)[i]? = some v := by simpa using hi
          refine ⟨rfl, yesT ?_⟩
          dsimp only [tOp, tVar]
          refine ⟨_, rfl, _, rfl, _, _, rfl, rfl, _, upd_same, ?_, ?_⟩
          · rw [List.length_map, List.length_take, sizeLine_eq]
            omega
          · rw [upd_upd, PySem.StrLaws.found_one, List.take_add_one, hi', List.map_append]
            rfl
        · subst q
          have hsz : (⟨⟨c :: r⟩⟩ : Str).cps.size = (c :: r).length := rfl
          rw [hsz, List.take_length]
          refine ⟨D, (c :: r).map fun x => decide (x ∈ g.cps.toList), rfl, SqL.of (by rw [List.map_map]; exact upd_same), ?_⟩
          have : tokB (c :: r) f.cps.toList g.cps.toList = ((c :: r).map fun x => decide (x ∈ g.cps.toList)).all id := by
            show (decide ((c :: r).length ≤ 64) && (decide (c ∈ f.cps.toList) && _)) = _
            rw [decide_eq_true (show (c :: r).length ≤ 64 by simpa using h64), decide_eq_true hc, Bool.true_and, Bool.true_and, List.all_map]
            rfl
          have q := kQ _ (same_upd (o := HO.lst ((c :: r).map fun x => V.bl (decide (x ∈ g.cps.toList)))) hD)
          rw [this] at q
          exact q
      · rw [decide_eq_false hc]
        refine iteT ?_
        have : tokB (c :: r) f.cps.toList g.cps.toList = false := by
          show (decide _ && (decide (c ∈ f.cps.toList) && _)) = false
          rw [decide_eq_false hc, Bool.false_and, Bool.and_false]
        have q := kQ H (fun _ _ h => h)
        rw [this] at q
        exact q
    · rw [decide_eq_true (show ((64 : Int) < ((r.length + 1 : Nat) : Int)) by omega)]
      refine iteT (iteT ?_)
      have : tokB (c :: r) f.cps.toList g.cps.toList = false := by
        show (decide ((c :: r).length ≤ 64) && _) = false
        rw [decide_eq_false (show ¬ (c :: r).length ≤ 64 by simpa using h64), Bool.false_and]
      have q := kQ H (fun _ _ h => h)
      rw [this] at q
      exact q
/-- the words that are no names -/
def kwS : List Str := (["module", "use", "sort", "fact", "rule", "fun", "action", "allow", "deny", "must", "slot", "if", "then", "else", "not", "and", "or", "like", "in", "of", "list", "count", "sum", "least", "greatest", "over", "from", "by", "prev", "yes", "no", "yesno", "number", "bytes", "text", "moment", "id"] : List String).map Str.ofString
def nameS (t : Str) : Bool := !(kwS.contains t) && tokB t.cps.toList smallT.cps.toList (smallT.cps.toList ++ figT.cps.toList ++ [95])
theorem inV_strs (t : Str) : ∀ l : List Str, inV (.str t) (l.map V.str) = l.contains t
  | [] => rfl
  | x :: l => by
    have ih := inV_strs t l
    unfold inV at ih ⊢
    rw [List.map_cons, List.any_cons, ih, List.contains_cons]
    congr 1
    show decide (x = t) = (t == x)
    by_cases e : x = t
    · subst e
      simp
    · rw [decide_eq_false e]
      symm
      rw [beq_eq_false_iff_ne]
      exact fun z => e z.symm
theorem flat_strs : ∀ l : List Str, (l.map V.str).all flatV = true
  | [] => rfl
  | x :: l => by
    rw [List.map_cons, List.all_cons, flat_strs l]
    rfl
def spName : Sp := fun vs H Q _ => ∃ t : Str, vs = [.str t] ∧ t.length ≤ 1000000 ∧ ∀ H', Same H H' → Q (.bl (nameS t)) H'
theorem ok_is_name (T : TTk K mg) (hK : TupT K mg "KEYWORDS" (kwS.map V.str)) : FnOk P w K mg base CX0 2 (ga K "is_name") (fdA K (ga K "is_name")) ["text"] spName := by
  obtain ⟨kw, hkw, hsq⟩ := hK
  have GT : FnOk P w K mg base CX0 1 (ga K "is_token") (fdA K (ga K "is_token")) ["text", "first", "further"] spTok := ok_is_token T
  have bT := b_is_token T.is_token.f
  refine T.is_name.f.ok sc_is_name (fun vs H Q E h => by obtain ⟨_, rfl, _⟩ := h; rfl) (fun cdv A outer s H vs Q E hr h => ⟨_, PSs.nox
    (pss_one (ps_ret (pe_and (pe_cmpR op_notIn_seq (pv 0) (pe_glob (v := .ref kw) rfl hkw rfl) (by rfl)) (pe_one (pe_call GT hr rfl T.is_token.g T.is_token.kp bT .nil pass0 (pa_cons (pv 0) (pa_cons (pe_strT T.SMALL) (pa_cons (pe_op op_add_str (pe_op op_add_str (pe_strT T.SMALL) (pe_strT T.FIGURES)) pe_str) pa_nil)))))))), ?_⟩)
  obtain ⟨t, rfl, ht, kQ⟩ := h
  dsimp only [cxOf, Cx.nox]
  refine ⟨_, rfl, kw, kwS.map V.str, rfl, .inr (hsq _), rfl, flat_strs _, _, rfl, ?_⟩
  rw [inV_strs]
  show if (!(kwS.contains t)) = true then _ else _
  cases hc : kwS.contains t with
  | true =>
    refine iteF ?_
    have q := kQ H (fun _ _ h => h)
    unfold nameS at q
    rw [hc] at q
    exact q
  | false =>
    refine iteT ?_
    refine ⟨_, rfl, _, _, rfl, rfl, (by rw [sizeLine_eq]; decide), _, _, rfl, rfl, (by rw [sizeLine_eq]; decide), t, smallT, _, rfl, ht, fun H' s1 => ?_⟩
    have q := kQ H' s1
    unfold nameS at q
    rw [hc] at q
    have e : (smallT ++ figT ++ ("_" : Str)).cps.toList = smallT.cps.toList ++ figT.cps.toList ++ [95] := by decide +kernel
    rw [e]
    exact q
end
end Hs
end
section
set_option Elab.async false
set_option linter.all false
namespace Tl
open Sw War
def sigB (n : Bytes) : Bytes := vary n.length ++ n
def txtB (n : Bytes) : Bytes := 4 :: sigB n
def sortB (m n : Bytes) : Bytes := 6 :: vary 2 ++ (sigB (ascii "in") ++ txtB m ++ (sigB (ascii "sort") ++ txtB n))
def toldB (k : K) : Bytes := k.told.enc
def rowB : KRow → Bytes
  | .nil => []
  | .cons n k r => sigB n ++ (toldB k ++ rowB r)
theorem utf8_small : ∀ b : Bytes, (∀ c ∈ b, c.toNat < 128) → utf8 (b.map fun (c : UInt8) => c.toNat) = b
  | [], _ => rfl
  | c :: b, h => by
    have ih := utf8_small b fun x hx => h x (by simp [hx])
    unfold utf8 at ih ⊢
    rw [List.map_cons, List.flatMap_cons, ih]
    have hc := h c (by simp)
    have : utf8One c.toNat = [c] := by
      unfold utf8One
      rw [if_pos hc]
      congr 1
      exact UInt8.ofNat_toNat
    rw [this]
    rfl
theorem txt_enc {b : Bytes} (h : ∀ c ∈ b, c.toNat < 128) : (txt b).enc = txtB b := by
  unfold txt
  rw [Value.enc, utf8_small b h]
  rfl
theorem told_nothing : toldB .nothing = txtB (ascii "nothing") := txt_enc (by decide)
theorem told_plain {k : Nat} (h : k < 6) : toldB (.plain k) = txtB (nth plainWords k) := by
  refine txt_enc ?_
  have e : ∀ k : Fin 6, ∀ c ∈ nth plainWords k.val, c.toNat < 128 := by decide
  exact e ⟨k, h⟩
theorem told_list (k : K) : toldB (.list k) = 6 :: (vary 1 ++ (sigB (ascii "list") ++ toldB k)) := by
  show (Value.rec_ (.cons (word "list") k.told .nil)).enc = _
  rw [Value.enc, Row.enc, Row.enc, if_pos rfl, List.append_nil]
  rfl
theorem toldR_len : ∀ l : KRow, l.told.length = l.length
  | .nil => rfl
  | .cons n k r => congrArg (· + 1) (toldR_len r)
theorem toldR_enc : ∀ l : KRow, l.told.enc true = rowB l
  | .nil => by
    show Row.enc .nil true = _
    rw [Row.enc]; rfl
  | .cons n k r => by
    show Row.enc (.cons n k.told r.told) true = _
    rw [Row.enc, if_pos rfl, toldR_enc r]
    rfl
theorem told_record (l : KRow) : toldB (.record l) = 6 :: (vary 1 ++ (sigB (ascii "record") ++ (6 :: (vary l.length ++ rowB l)))) := by
  show (Value.rec_ (.cons (word "record") (.rec_ l.told) .nil)).enc = _
  rw [Value.enc, Row.enc, Row.enc, if_pos rfl, List.append_nil, Value.enc, toldR_len, toldR_enc]
  rfl
theorem told_sort {m n : Bytes} (h1 : ∀ c ∈ m, c.toNat < 128) (h2 : ∀ c ∈ n, c.toNat < 128) : toldB (.sort m n) = sortB m n := by
  show (Value.rec_ (.cons (word "in") (txt m) (.cons (word "sort") (txt n) .nil))).enc = _
  rw [Value.enc, Row.enc, Row.enc, Row.enc, if_pos rfl, if_pos rfl, List.append_nil, txt_enc h1, txt_enc h2]
  show 6 :: (vary 2 ++ (sigB (ascii "in") ++ (txtB m ++ (sigB (ascii "sort") ++ txtB n)))) = _
  unfold sortB
  simp
/-! ### how many nodes -/
mutual
def ksize : K → Nat
  | .list k => ksize k + 1
  | .record l => rsize l + 1
  | _ => 1
def rsize : KRow → Nat
  | .nil => 0
  | .cons _ k r => ksize k + rsize r
end
theorem ksize_pos (k : K) : 0 < ksize k := by cases k <;> simp [ksize]
end Tl
end
section
set_option Elab.async false
set_option linter.all false
set_option maxRecDepth 100000
set_option maxHeartbeats 2000000
namespace Hs
open PySem PySem.Spec PyProof.Rows L2 Kt Nest Tl
structure TTl (K : PySem.W.Frag) (mg : Str → Option Value) : Prop where
  kd : TKd K mg
  wr : TWr K mg
  kind_told : FnT K mg "kind_told" s_kind_told
  put_kind : FnT K mg "put_kind" s_put_kind
  put_sort : FnT K mg "put_sort" s_put_sort
def sortO (m n : Sw.Bytes) : Nat → Sw.Bytes
  | 0 => 6 :: Sw.vary 2
  | 1 => 6 :: Sw.vary 2 ++ (sigB (Sw.ascii "in") ++ txtB m)
  | _ => sortB m n
theorem str_in : ("in" : Str) = asStr (Sw.ascii "in") := by decide +kernel
theorem str_sort : ("sort" : Str) = asStr (Sw.ascii "sort") := by decide +kernel
theorem str_list : ("list" : Str) = asStr (Sw.ascii "list") := by decide +kernel
theorem str_record : ("record" : Str) = asStr (Sw.ascii "record") := by decide +kernel
section
variable {P : Program} {w : World} {K : PySem.W.Frag} {mg : Str → Option Value} {base : Heap}
def spPutSort (K : PySem.W.Frag) : Sp := fun vs H Q _ => ∃ (wr cl nA : Addr) (b m n : Sw.Bytes), vs = [.ref wr, .ref nA] ∧ WrAt K H wr cl b ∧ H nA = some (.tup [V.str (asStr m), V.str (asStr n)]) ∧ b.length + (sortB m n).length < 3999000 ∧ ∀ H', SameX [cl] H H' → WrAt K H' wr cl (b ++ sortB m n) → Q .non H'
theorem ok_put_sort (T : TTl K mg) : FnOk P w K mg base CX0 4 (ga K "put_sort") (fdA K (ga K "put_sort")) ["writer", "names"] (spPutSort K) := by
  have GR : FnOk P w K mg base CX0 2 (ma K "Writer" "put_record") (fdA K (ma K "Writer" "put_record")) ["self", "size"] (spPutR K) := ok_put_record T.wr
  have bR := b_Writer_put_record T.wr.put_record.f
  have GS : FnOk P w K mg base CX0 2 (ma K "Writer" "put_signs") (fdA K (ma K "Writer" "put_signs")) ["self", "text"] (spPutS K) := ok_put_signs T.wr
  have bS := b_Writer_put_signs T.wr.put_signs.f
  have GT : FnOk P w K mg base CX0 3 (ma K "Writer" "put_text") (fdA K (ma K "Writer" "put_text")) ["self", "text"] (spPutT K) := ok_put_text T.wr
  have bT := b_Writer_put_text T.wr.put_text.f
  refine T.put_sort.f.ok sc_put_sort (fun vs H Q E h => by obtain ⟨_, _, _, _, _, _, rfl, _⟩ := h; rfl) (fun cdv A outer s H vs Q E hr h => ⟨_, PSs.nox
    (pss_cons (ps_expr (pe_meth (pv 0) T.wr.C.cl T.wr.put_record.me GR (hr.mono (by decide)) bR .nil pass0 (pa_cons pe_int pa_nil)))
    (pss_one (ps_for PassesOwn.never rfl (RZ.pi_zipA (by rfl) T.kd.zip (pa_cons (pe_tup (pa_cons pe_str (pa_cons pe_str pa_nil))) (pa_cons (pv 1) pa_nil)))
      (pg_tup (by rfl) (pgs_cons (pg_name (i := 2) sc_put_sort.nd rfl (Or.inl rfl)) (pgs_cons (pg_name (i := 3) sc_put_sort.nd rfl (Or.inl rfl)) pgs_nil)))
      (pss_cons (ps_expr (pe_meth (pv 0) T.wr.C.cl T.wr.put_signs.me GS (hr.mono (by decide)) bS .nil pass0 (pa_cons (pv 2) pa_nil)))
      (pss_one (ps_expr (pe_meth (pv 0) T.wr.C.cl T.wr.put_text.me GT hr bT .nil pass0 (pa_cons (pv 3) pa_nil)))))))), ?_⟩)
  obtain ⟨wr, cl, nA, b, m, n, rfl, W, hn, hb, kQ⟩ := h
  dsimp only [cxOf, Cx.nox]
  obtain ⟨⟨dx, h1⟩, h2⟩ := id W
  have ncl : nA ≠ cl := ne_of hn h2 (fun z => nomatch z)
  have hl : (sortB m n).length = (6 :: Sw.vary 2).length + ((sigB (Sw.ascii "in")).length + (txtB m).length + ((sigB (Sw.ascii "sort")).length + (txtB n).length)) := by
    unfold sortB
    simp only [List.length_append]
  have t1 : (txtB m).length = (Sw.vary m.length).length + m.length + 1 := by unfold txtB sigB; simp
  have t2 : (txtB n).length = (Sw.vary n.length).length + n.length + 1 := by unfold txtB sigB; simp
  have t3 : ∀ c : Sw.Bytes, (sigB c).length = (Sw.vary c.length).length + c.length := fun c => by unfold sigB; simp
  refine ⟨_, rfl, wr, dx, _, rfl, h1, wrF_record, wr, cl, b, 2, rfl, W, ?_, fun H1 s1 W1 => ?_⟩
  · simp only [List.length_cons] at hl
    omega
  refine ⟨(by show 2 ≤ sizeLine; rw [sizeLine_eq]; decide), fun C hC => ⟨_, rfl, C, nA, _, _, rfl, .inr ⟨SqT.of upd_same, SqT.of (same_upd hC _ _ (s1 _ _ (by simpa using ncl) hn)), ?_⟩⟩⟩
  refine RZ.for_zipT (xs := [V.str "in", V.str "sort"]) (ys := [V.str (asStr m), V.str (asStr n)]) rfl (fun i σ H' => ∃ x y, σ = [some (V.ref wr), some (V.ref nA), x, y] ∧ WrAt K H' wr cl (b ++ sortO m n i) ∧ SameX [cl] H H' ∧ H' C = some (.tup [V.str "in", V.str "sort"])) ⟨none, none, rfl, W1.to (same_upd hC), s1.trans (SameX.of (same_upd hC)), upd_same⟩ ?_ ?_ ?_
  · rintro i σ H' ⟨x, y, rfl, _, s2, hC2⟩
    exact ⟨SqT.of hC2, SqT.of (s2 _ _ (by simpa using ncl) hn)⟩
  · rintro i x y X σ H' hx hy ⟨x0, y0, rfl, W2, s2, hC2⟩ hX
    have sX := same_upd (o := HO.tup [x, y]) hX
    have W3 := W2.to sX
    obtain ⟨⟨dx3, h3⟩, h4⟩ := id W3
    refine ⟨X, _, rfl, SqT.of upd_same, rfl, _, _, rfl, _, _, rfl, rfl, ?_⟩
    have fin : ∀ (c d : Sw.Bytes), x = V.str (asStr c) → y = V.str (asStr d) → sortO m n (i + 1) = sortO m n i ++ (sigB c ++ txtB d) → (b ++ sortO m n (i + 1)).length < 3999999 →
        tSeq (tDrop (tMeth (CW K) "put_signs" (spPutS K) [] E0 (tVar 0) (tCons (tVar 2) tNil))) (tDrop (tMeth (CW K) "put_text" (spPutT K) [] E0 (tVar 0) (tCons (tVar 3) tNil)))
          { nx := fun σ H' => ∃ x y, σ = [some (V.ref wr), some (V.ref nA), x, y] ∧ WrAt K H' wr cl (b ++ sortO m n (i + 1)) ∧ SameX [cl] H H' ∧ H' C = some (.tup [V.str "in", V.str "sort"]), rt := Q, ct := fun σ H' => ∃ x y, σ = [some (V.ref wr), some (V.ref nA), x, y] ∧ WrAt K H' wr cl (b ++ sortO m n (i + 1)) ∧ SameX [cl] H H' ∧ H' C = some (.tup [V.str "in", V.str "sort"]), bk := fun _ H' => Q V.non H' }
          [some (V.ref wr), some (V.ref nA), some x, some y] (upd H' X (.tup [x, y])) := by
      intro c d hc hd ho hlen
      rw [ho] at hlen
      simp only [List.length_append] at hlen
      have hcl := t3 c
      have hdl : (txtB d).length = (Sw.vary d.length).length + d.length + 1 := by unfold txtB sigB; simp
      refine ⟨_, rfl, wr, dx3, _, rfl, h3, wrF_signs, _, rfl, wr, cl, b ++ sortO m n i, c, by rw [hc]; rfl, W3, by rw [List.length_append]; omega, fun H5 s5 W5 => ?_⟩
      obtain ⟨⟨dx5, h5⟩, _⟩ := id W5
      refine ⟨_, rfl, wr, dx5, _, rfl, h5, wrF_text, _, rfl, wr, cl, _, d, by rw [hd]; rfl, W5, by simp only [List.length_append]; omega, fun H6 s6 W6 => ?_⟩
      have cC : C ≠ cl := fun z => by
        have q := sX _ _ hC2
        rw [z, h4] at q
        cases q
      refine ⟨_, _, rfl, ?_, s2.trans ((SameX.of sX).trans (s5.trans s6)), s6 _ _ (by simpa using cC) (s5 _ _ (by simpa using cC) (sX _ _ hC2))⟩
      have e : b ++ sortO m n (i + 1) = b ++ sortO m n i ++ (Sw.vary c.length ++ c) ++ 4 :: (Sw.vary d.length ++ d) := by
        rw [ho]
        unfold sigB txtB sigB
        simp
      rw [e]
      exact W6
    have hi : i < 2 := (List.getElem?_eq_some_iff.mp hx).1
    have hsl : ∀ j, (sortO m n j).length ≤ (sortB m n).length := fun j => by
      match j with
      | 0 => show (6 :: Sw.vary 2).length ≤ _; omega
      | 1 =>
        show (6 :: Sw.vary 2 ++ (sigB (Sw.ascii "in") ++ txtB m)).length ≤ _
        simp only [List.length_append]
        omega
      | j + 2 => exact Nat.le_refl _
    have hsb : (b ++ sortO m n (i + 1)).length < 3999999 := by
      have := hsl (i + 1)
      rw [List.length_append]
      omega
    match i, hi with
    | 0, _ =>
      have e1 : V.str "in" = x := by simpa using hx
      have e2 : V.str (asStr m) = y := by simpa using hy
      exact fin (Sw.ascii "in") m (by rw [← e1, str_in]) e2.symm rfl hsb
    | 1, _ =>
      have e1 : V.str "sort" = x := by simpa using hx
      have e2 : V.str (asStr n) = y := by simpa using hy
      exact fin (Sw.ascii "sort") n (by rw [← e1, str_sort]) e2.symm (by show sortB m n = _; unfold sortB sortO; simp) hsb
  · rintro σ H' ⟨x, y, rfl, W2, s2, _⟩
    exact kQ H' s2 W2
end
end Hs
end
section
set_option Elab.async false
set_option linter.all false
set_option maxRecDepth 100000
set_option maxHeartbeats 2000000
namespace Hs
open PySem PySem.Spec PyProof.Rows L2 Kt Nest Tl
/-- bytes that stand for themselves in a spelled text -/
def PlB (n : Sw.Bytes) : Prop := ∀ c ∈ n, c.toNat ∈ plainL
theorem plainL_small : ∀ c ∈ plainL, c < 128 := by rw [plainL_eq]; decide
theorem PlB.small {n : Sw.Bytes} (h : PlB n) : ∀ c ∈ n, c.toNat < 128 := fun c hc => plainL_small _ (h c hc)
theorem str_eq {a b : Str} (h : a.cps.toList = b.cps.toList) : a = b := by
  cases a with
  | mk x => cases b with
    | mk y => exact congrArg Str.mk (Array.toList_inj.mp h)
theorem spell_plain {n : Sw.Bytes} (h : PlB n) : spell n = asStr n := by
  apply str_eq
  rw [spell_codes]
  show _ = (n.map UInt8.toNat).toArray.toList
  have : ∀ m : Sw.Bytes, PlB m → (m.flatMap fun c => sp1L c.toNat) = m.map UInt8.toNat := fun m => by
    induction m with
    | nil => intro _; rfl
    | cons c m ih =>
      intro hm
      rw [List.flatMap_cons, ih fun x hx => hm x (by simp [hx]), List.map_cons]
      have hc := hm c (by simp)
      have : sp1L c.toNat = [c.toNat] := by
        unfold sp1L
        rw [if_pos]
        rw [List.contains_iff_mem]
        rw [plainL_eq] at hc
        exact hc
      rw [this]
      rfl
  rw [this n h]
def nameBytes : Rw → List Sw.Bytes
  | .record ns _ => ns
  | .sort m n => [m, n]
  | _ => []
theorem namesS_bytes (r : Rw) : namesS r = (nameBytes r).map spell := by cases r <;> rfl
mutual
/-- the names in a kind are such as tokens are -/
def KN : War.K → Prop
  | .record l => RN l
  | .sort m n => (PlB m ∧ m ≠ []) ∧ (PlB n ∧ n ≠ [])
  | .list k => KN k
  | _ => True
def RN : War.KRow → Prop
  | .nil => True
  | .cons n k r => (PlB n ∧ n ≠ []) ∧ (KN k ∧ RN r)
end
theorem rn_rows (f : Nat → War.K) : ∀ {ns : List Sw.Bytes} {ps : List Nat}, ns.length = ps.length → RN (rowOf ns (ps.map f)) → (∀ n ∈ ns, PlB n ∧ n ≠ []) ∧ ∀ p ∈ ps, KN (f p)
  | [], [], _, _ => ⟨(fun n hn => by cases hn), fun p hp => by cases hp⟩
  | n :: ns, p :: ps, h, q => by
    have q' : RN (.cons n (f p) (rowOf ns (ps.map f))) := q
    rw [RN] at q'
    obtain ⟨q1, q2, q3⟩ := q'
    obtain ⟨i1, i2⟩ := rn_rows f (ns := ns) (ps := ps) (by simpa using h) q3
    refine ⟨fun x hx => ?_, fun x hx => ?_⟩
    · rcases List.mem_cons.mp hx with z | z
      · rw [z]; exact q1
      · exact i1 x z
    · rcases List.mem_cons.mp hx with z | z
      · rw [z]; exact q2
      · exact i2 x z
  | [], _ :: _, h, _ => by cases h
  | _ :: _, [], h, _ => by cases h
theorem kn_row {f : Nat → War.K} {r : Rw} {m : Nat} (ok : RwOk m r) (h : KN (r.mean f)) : (∀ n ∈ nameBytes r, PlB n ∧ n ≠ []) ∧ ∀ p ∈ r.parts, KN (f p) := by
  cases r with
  | nothing => exact ⟨(fun n hn => by cases hn), fun p hp => by cases hp⟩
  | plain k => exact ⟨(fun n hn => by cases hn), fun p hp => by cases hp⟩
  | list p =>
    have h' : KN (.list (f p)) := h
    rw [KN] at h'
    exact ⟨(fun n hn => by cases hn), fun q hq => by
      have : q = p := by simpa [Rw.parts] using hq
      rw [this]; exact h'⟩
  | sort a b =>
    have h' : KN (.sort a b) := h
    rw [KN] at h'
    refine ⟨fun n hn => ?_, fun p hp => by cases hp⟩
    rcases List.mem_cons.mp (show n ∈ [a, b] from hn) with z | z
    · rw [z]; exact h'.1
    · have : n = b := by simpa using z
      rw [this]; exact h'.2
  | record ns ps =>
    have h' : KN (.record (rowOf ns (ps.map f))) := h
    rw [KN] at h'
    exact rn_rows f (ok.2 _ _ rfl) h'
mutual
theorem kn_agree : ∀ (a b c : War.K), KN a → KN b → a.agree b = some c → KN c
  | .nothing, b, c, _, hb, h => by
    rw [nothing_left] at h
    injection h with h
    rw [← h]; exact hb
  | a, .nothing, c, ha, _, h => by
    rw [nothing_right] at h
    injection h with h
    rw [← h]; exact ha
  | .plain a, .plain b, c, _, _, h => by
    rw [War.K.agree] at h
    · split at h
      · injection h with h; rw [← h, KN] <;> simp
      · cases h
    all_goals simp
  | .list a, .list b, c, ha, hb, h => by
    rw [War.K.agree] at h
    · cases e : a.agree b with
      | none => rw [e] at h; cases h
      | some d =>
        rw [e] at h
        have : c = .list d := by injection h with h; exact h.symm
        rw [KN] at ha hb
        rw [this, KN]
        exact kn_agree a b d ha hb e
    all_goals simp
  | .record a, .record b, c, ha, hb, h => by
    rw [War.K.agree] at h
    · cases e : a.agree b with
      | none => rw [e] at h; cases h
      | some d =>
        rw [e] at h
        have : c = .record d := by injection h with h; exact h.symm
        rw [KN] at ha hb
        rw [this, KN]
        exact rn_agree a b d ha hb e
    all_goals simp
  | .sort a b, .sort p q, c, ha, _, h => by
    rw [War.K.agree] at h
    · split at h
      · injection h with h; rw [← h]; exact ha
      · cases h
    all_goals simp
  | .plain a, .list b, c, _, _, h => by rw [War.K.agree] at h <;> first | cases h | simp
  | .plain a, .record b, c, _, _, h => by rw [War.K.agree] at h <;> first | cases h | simp
  | .plain a, .sort b b', c, _, _, h => by rw [War.K.agree] at h <;> first | cases h | simp
  | .list a, .plain b, c, _, _, h => by rw [War.K.agree] at h <;> first | cases h | simp
  | .list a, .record b, c, _, _, h => by rw [War.K.agree] at h <;> first | cases h | simp
  | .list a, .sort b b', c, _, _, h => by rw [War.K.agree] at h <;> first | cases h | simp
  | .record a, .plain b, c, _, _, h => by rw [War.K.agree] at h <;> first | cases h | simp
  | .record a, .list b, c, _, _, h => by rw [War.K.agree] at h <;> first | cases h | simp
  | .record a, .sort b b', c, _, _, h => by rw [War.K.agree] at h <;> first | cases h | simp
  | .sort a a', .plain b, c, _, _, h => by rw [War.K.agree] at h <;> first | cases h | simp
  | .sort a a', .list b, c, _, _, h => by rw [War.K.agree] at h <;> first | cases h | simp
  | .sort a a', .record b, c, _, _, h => by rw [War.K.agree] at h <;> first | cases h | simp
theorem rn_agree : ∀ (a b c : War.KRow), RN a → RN b → a.agree b = some c → RN c
  | .nil, .nil, c, _, _, h => by
    rw [War.KRow.agree] at h
    injection h with h
    rw [← h, RN]; trivial
  | .nil, .cons _ _ _, c, _, _, h => by rw [War.KRow.agree] at h <;> first | cases h | simp
  | .cons _ _ _, .nil, c, _, _, h => by rw [War.KRow.agree] at h <;> first | cases h | simp
  | .cons n a r, .cons m b s, c, ha, hb, h => by
    rw [War.KRow.agree] at h
    split at h
    · cases e1 : a.agree b with
      | none => rw [e1] at h; cases h
      | some d =>
        rw [e1] at h
        dsimp only at h
        cases e2 : r.agree s with
        | none => rw [e2] at h; cases h
        | some t =>
          rw [e2] at h
          have : c = .cons n d t := by injection h with h; exact h.symm
          rw [RN] at ha hb
          rw [this, RN]
          exact ⟨ha.1, kn_agree a b d ha.2.1 hb.2.1 e1, rn_agree r s t ha.2.2 hb.2.2 e2⟩
    · cases h
end
theorem names_str {r : Rw} (h : ∀ n ∈ nameBytes r, PlB n ∧ n ≠ []) : namesS r = (nameBytes r).map asStr := by
  rw [namesS_bytes]
  exact List.map_congr_left fun n hn => spell_plain (h n hn).1
structure TEnt where
  a : Addr
  nm : Sw.Bytes
  i : Nat
def entB (T : List Rw) (e : TEnt) : Sw.Bytes := (if e.nm = [] then [] else sigB e.nm) ++ toldB (kAt T e.i)
/-- what's to be put, the last one first -/
def restB (T : List Rw) : List TEnt → Sw.Bytes
  | [] => []
  | e :: l => restB T l ++ entB T e
theorem restB_snoc (T : List Rw) : ∀ (l : List TEnt) (e : TEnt), restB T (l ++ [e]) = entB T e ++ restB T l
  | [], e => by show [] ++ entB T e = entB T e ++ []; simp
  | x :: l, e => by
    show restB T (l ++ [e]) ++ entB T x = _
    rw [restB_snoc T l e, List.append_assoc]
    rfl
def tsz (T : List Rw) (l : List TEnt) : Nat := (l.map fun e => ksize (kAt T e.i)).sum
theorem tsz_append (T : List Rw) (l m : List TEnt) : tsz T (l ++ m) = tsz T l + tsz T m := by
  unfold tsz
  rw [List.map_append, List.sum_append]
theorem tsz_len (T : List Rw) : ∀ l : List TEnt, l.length ≤ tsz T l
  | [] => Nat.zero_le _
  | e :: l => by
    have h1 := ksize_pos (kAt T e.i)
    have h2 := tsz_len T l
    show l.length + 1 ≤ ksize (kAt T e.i) + tsz T l
    omega
/-- a record's fields, as they wait: the first on top -/
def fieldE : List Addr → List Sw.Bytes → List Nat → List TEnt
  | a :: as, n :: ns, i :: is => fieldE as ns is ++ [⟨a, n, i⟩]
  | _, _, _ => []
theorem fieldE_rest (T : List Rw) : ∀ {as : List Addr} {ns : List Sw.Bytes} {is : List Nat}, as.length = ns.length → ns.length = is.length → (∀ n ∈ ns, n ≠ []) → restB T (fieldE as ns is) = rowB (rowOf ns (is.map (kAt T)))
  | [], [], [], _, _, _ => rfl
  | a :: as, n :: ns, i :: is, h1, h2, h3 => by
    have ih := fieldE_rest T (as := as) (ns := ns) (is := is) (by simpa using h1) (by simpa using h2) fun x hx => h3 x (by simp [hx])
    show restB T (fieldE as ns is ++ [⟨a, n, i⟩]) = sigB n ++ (toldB (kAt T i) ++ rowB (rowOf ns (is.map (kAt T))))
    rw [restB_snoc, ih]
    unfold entB
    rw [if_neg (h3 n (by simp)), List.append_assoc]
  | [], _ :: _, _, h, _, _ => by cases h
  | _ :: _, [], _, h, _, _ => by cases h
  | [], [], _ :: _, _, h, _ => by cases h
  | _ :: _, _ :: _, [], _, h, _ => by cases h
theorem fieldE_size (T : List Rw) : ∀ {as : List Addr} {ns : List Sw.Bytes} {is : List Nat}, as.length = ns.length → ns.length = is.length → tsz T (fieldE as ns is) = rsize (rowOf ns (is.map (kAt T)))
  | [], [], [], _, _ => rfl
  | a :: as, n :: ns, i :: is, h1, h2 => by
    have ih := fieldE_size T (as := as) (ns := ns) (is := is) (by simpa using h1) (by simpa using h2)
    show tsz T (fieldE as ns is ++ [⟨a, n, i⟩]) = ksize (kAt T i) + rsize (rowOf ns (is.map (kAt T)))
    rw [tsz_append, ih, Nat.add_comm]
    rfl
  | [], _ :: _, _, h, _ => by cases h
  | _ :: _, [], _, h, _ => by cases h
  | [], [], _ :: _, _, h => by cases h
  | _ :: _, _ :: _, [], _, h => by cases h
theorem fieldE_refs : ∀ {as : List Addr} {ns : List Sw.Bytes} {is : List Nat}, as.length = ns.length → ns.length = is.length → (fieldE as ns is).map (fun e => V.ref e.a) = (as.map V.ref).reverse
  | [], [], [], _, _ => rfl
  | a :: as, n :: ns, i :: is, h1, h2 => by
    have ih := fieldE_refs (as := as) (ns := ns) (is := is) (by simpa using h1) (by simpa using h2)
    show (fieldE as ns is ++ [(⟨a, n, i⟩ : TEnt)]).map (fun (e : TEnt) => V.ref e.a) = _
    rw [List.map_append, ih]
    show (as.map V.ref).reverse ++ [V.ref a] = (V.ref a :: as.map V.ref).reverse
    rw [List.reverse_cons]
  | [], _ :: _, _, h, _ => by cases h
  | _ :: _, [], _, h, _ => by cases h
  | [], [], _ :: _, _, h => by cases h
  | _ :: _, _ :: _, [], _, h => by cases h
theorem rowOf_len : ∀ {ns : List Sw.Bytes} {ks : List War.K}, ns.length = ks.length → (rowOf ns ks).length = ns.length
  | [], [], _ => rfl
  | n :: ns, k :: ks, h => congrArg (· + 1) (rowOf_len (ns := ns) (ks := ks) (by simpa using h))
  | [], _ :: _, h => by cases h
  | _ :: _, [], h => by cases h
theorem mem_field : ∀ {as : List Addr} {ns : List Sw.Bytes} {is : List Nat} {e : TEnt}, e ∈ fieldE as ns is → (e.a, e.nm, e.i) ∈ as.zip (ns.zip is)
  | a :: as, n :: ns, i :: is, e, h => by
    rcases List.mem_append.mp (show e ∈ fieldE as ns is ++ [⟨a, n, i⟩] from h) with z | z
    · exact List.mem_cons_of_mem _ (mem_field z)
    · have : e = ⟨a, n, i⟩ := by simpa using z
      rw [this]
      simp
  | [], _, _, e, h => by unfold fieldE at h; cases h
  | _ :: _, [], _, e, h => by unfold fieldE at h; cases h
  | _ :: _, _ :: _, [], e, h => by unfold fieldE at h; cases h
end Hs
end
section
set_option Elab.async false
set_option linter.all false
set_option maxRecDepth 100000
set_option maxHeartbeats 4000000
namespace Hs
open PySem PySem.Spec PyProof.Rows L2 Kt Nest Tl
section
variable {P : Program} {w : World} {K : PySem.W.Frag} {mg : Str → Option Value} {base : Heap}
def spPutKind (P : Program) (w : World) (K : PySem.W.Frag) : Sp := fun vs H Q _ => ∃ (wr cl k : Addr) (b : Sw.Bytes) (T : List Rw) (o : KO) (i : Nat), vs = [.ref wr, .ref k, .int (i : Int)] ∧ WrAt K H wr cl b ∧ KTab P w K H k T o ∧ KN (kAt T i) ∧ cl ≠ o.ra ∧ cl ≠ o.ha ∧ i < T.length ∧ b.length + (toldB (kAt T i)).length < 3000000 ∧ ksize (kAt T i) < 1000000 ∧
  ∀ H', SameX [cl] H H' → WrAt K H' wr cl (b ++ toldB (kAt T i)) → Q .non H'
structure PkSt (P : Program) (w : World) (K : PySem.W.Frag) (H0 H : Hp) (wr cl k wa : Addr) (b : Sw.Bytes) (T : List Rw) (o : KO) (i m : Nat) (out : Sw.Bytes) (stk : List TEnt) : Prop where
  wt : WrAt K H wr cl (b ++ out)
  wl : H wa = some (.lst (stk.map fun e => V.ref e.a))
  tup : ∀ e ∈ stk, H e.a = some (.tup [V.str (asStr e.nm), V.int (e.i : Int)])
  lt : ∀ e ∈ stk, e.i < T.length
  out_ : out ++ restB T stk = toldB (kAt T i)
  ms : m = tsz T stk
  sz : tsz T stk ≤ ksize (kAt T i)
  sx : SameX [cl] H0 H
  fresh : H0 wa = none
  ne : cl ≠ wa
  kn : ∀ e ∈ stk, KN (kAt T e.i)
theorem str_empty : ("" : Str) = asStr [] := rfl
theorem asStr_inj {a b : Sw.Bytes} (h : asStr a = asStr b) : a = b := by
  have e : (asStr a).cps.toList = (asStr b).cps.toList := by rw [h]
  have e2 : a.map UInt8.toNat = b.map UInt8.toNat := e
  have : ∀ a b : Sw.Bytes, a.map UInt8.toNat = b.map UInt8.toNat → a = b := fun a => by
    induction a with
    | nil => intro b h; cases b with
      | nil => rfl
      | cons => cases h
    | cons x a ih => intro b h; cases b with
      | nil => cases h
      | cons y b =>
        injection h with h1 h2
        rw [UInt8.toNat_inj.mp h1, ih b h2]
  exact this a b e2
theorem dec_str (a b : Str) : decide (V.str a = V.str b) = decide (a = b) := by
  by_cases e : a = b
  · rw [e, decide_eq_true rfl, decide_eq_true rfl]
  · rw [decide_eq_false e, decide_eq_false (fun q => e (V.str.inj q))]
theorem str_nothing : ("nothing" : Str) = asStr (Sw.ascii "nothing") := by decide +kernel
theorem str_plain {q : Nat} (h : q < 6) : plainS q = asStr (War.nth War.plainWords q) := by
  have e : ∀ q : Fin 6, plainS q.val = asStr (War.nth War.plainWords q.val) := by decide +kernel
  exact e ⟨q, h⟩
/-- if name != "": writer.put_signs(name) -/
theorem sig_step (T0 : TTl K mg) {D : Ends} {σ : L2.St} {H : Hp} {wr cl : Addr} {b nm : Sw.Bytes} (h0 : σ[0]? = some (some (V.ref wr))) (h4 : σ[4]? = some (some (V.str (asStr nm)))) (W : WrAt K H wr cl b) (hb : b.length + (sigB nm).length < 4000000)
    (hN : ∀ H3, SameX [cl] H H3 → WrAt K H3 wr cl (b ++ (if nm = [] then [] else sigB nm)) → D.nx σ H3) : tIfS (tTest (tOp rNe (tVar 4) (tC (V.str "")))) (tDrop (tMeth (CW K) "put_signs" (spPutS K) [] E0 (tVar 0) (tCons (tVar 4) tNil))) tNext D σ H := by
  refine ⟨_, h4, rfl, _, rfl, ?_⟩
  rw [dec_str, str_empty]
  by_cases e : nm = []
  · subst e
    rw [decide_eq_true rfl]
    refine iteF (hN H (SameX.refl _ _) ?_)
    rw [if_pos rfl, List.append_nil]
    exact W
  · rw [decide_eq_false (fun q => e (asStr_inj q))]
    refine iteT ?_
    obtain ⟨⟨dx, h1⟩, _⟩ := id W
    unfold sigB at hb
    rw [List.length_append] at hb
    refine ⟨_, h0, wr, dx, _, rfl, h1, wrF_signs, _, h4, wr, cl, b, nm, rfl, W, by omega, fun H3 s3 W3 => hN H3 s3 ?_⟩
    rw [if_neg e]
    exact W3
theorem restB_append (T : List Rw) : ∀ l m : List TEnt, restB T (l ++ m) = restB T m ++ restB T l
  | [], m => by show restB T m = restB T m ++ []; simp
  | e :: l, m => by
    show restB T (l ++ m) ++ entB T e = restB T m ++ (restB T l ++ entB T e)
    rw [restB_append T l m, List.append_assoc]
theorem zip_field {as : List Addr} {ns : List Sw.Bytes} {is : List Nat} {a : Addr} {n : Sw.Bytes} {i : Nat} (h : (a, n, i) ∈ as.zip (ns.zip is)) : (a, (V.str (asStr n), V.int (i : Int))) ∈ as.zip (((ns.map asStr).map V.str).zip (is.map fun (p : Nat) => V.int ((p : Nat) : Int))) := by
  obtain ⟨j, hj⟩ := List.mem_iff_getElem?.mp h
  rw [List.getElem?_zip_eq_some] at hj
  obtain ⟨e1, e2⟩ := hj
  rw [List.getElem?_zip_eq_some] at e2
  obtain ⟨e2, e3⟩ := e2
  have e2' : ns[j]? = some n := e2
  have e3' : is[j]? = some i := e3
  refine List.mem_iff_getElem?.mpr ⟨j, ?_⟩
  rw [List.getElem?_zip_eq_some]
  refine ⟨e1, ?_⟩
  rw [List.getElem?_zip_eq_some]
  refine ⟨?_, ?_⟩
  · show ((ns.map asStr).map V.str)[j]? = _
    rw [List.getElem?_map, List.getElem?_map, e2']
    rfl
  · show (is.map fun (p : Nat) => V.int ((p : Nat) : Int))[j]? = _
    rw [List.getElem?_map, e3']
    rfl
theorem ok_put_kind (T0 : TTl K mg) : FnOk P w K mg base CX0 5 (ga K "put_kind") (fdA K (ga K "put_kind")) ["writer", "kinds", "kind"] (spPutKind P w K) := by
  have GR : FnOk P w K mg base CX0 2 (ma K "Writer" "put_record") (fdA K (ma K "Writer" "put_record")) ["self", "size"] (spPutR K) := ok_put_record T0.wr
  have bR := b_Writer_put_record T0.wr.put_record.f
  have GS : FnOk P w K mg base CX0 2 (ma K "Writer" "put_signs") (fdA K (ma K "Writer" "put_signs")) ["self", "text"] (spPutS K) := ok_put_signs T0.wr
  have bS := b_Writer_put_signs T0.wr.put_signs.f
  have GT : FnOk P w K mg base CX0 3 (ma K "Writer" "put_text") (fdA K (ma K "Writer" "put_text")) ["self", "text"] (spPutT K) := ok_put_text T0.wr
  have bT := b_Writer_put_text T0.wr.put_text.f
  have GO : FnOk P w K mg base CX0 4 (ga K "put_sort") (fdA K (ga K "put_sort")) ["writer", "names"] (spPutSort K) := ok_put_sort T0
  have bO := b_put_sort T0.put_sort.f
  refine T0.put_kind.f.ok sc_put_kind (fun vs H Q E h => by obtain ⟨_, _, _, _, _, _, _, rfl, _⟩ := h; rfl) (fun cdv A outer s H vs Q E hr h => ⟨_, PSs.nox
    (pss_cons (ps_set (i := 3) sc_put_kind.nd rfl (Or.inl rfl) (pe_lst (pa_cons (pe_tup (pa_cons pe_str (pa_cons (pv 2) pa_nil))) pa_nil)))
    (pss_one (ps_while PassesOwn.never (pt_truth (pv 3) (by intro _; rfl))
      (pss_cons (ps_asg (pe_bm0 PySem.F.plainAttrs_list PySem.F.slot_list_pop PySem.F.type_list_pop mt_pop (pv 3)) (pg_tup (by rfl) (pgs_cons (pg_name (i := 4) sc_put_kind.nd rfl (Or.inl rfl)) (pgs_cons (pg_name (i := 5) sc_put_kind.nd rfl (Or.inl rfl)) pgs_nil))))
      (pss_cons (ps_if (pt_cmpR op_ne (pv 4) pe_str (nomark _)) (pss_one (ps_expr (pe_meth (pv 0) T0.wr.C.cl T0.wr.put_signs.me GS (hr.mono (by decide)) bS .nil pass0 (pa_cons (pv 4) pa_nil)))) pss_nil)
      (pss_cons (ps_asg (pe_ix ix_list (pe_fld (pv 1) rfl) (pv 5) (fun _ _ => rfl)) (pg_tup (by rfl) (pgs_cons (pg_name (i := 6) sc_put_kind.nd rfl (Or.inl rfl)) (pgs_cons (pg_name (i := 7) sc_put_kind.nd rfl (Or.inl rfl)) (pgs_cons (pg_name (i := 8) sc_put_kind.nd rfl (Or.inl rfl)) pgs_nil)))))
      (pss_one (ps_if (pt_cmpR op_eq (pv 6) pe_str (nomark _))
        (pss_one (ps_expr (pe_call GO hr rfl T0.put_sort.g T0.put_sort.kp bO .nil pass0 (pa_cons (pv 0) (pa_cons (pv 7) pa_nil)))))
        (pss_one (ps_if (pt_cmpR op_eq (pv 6) pe_str (nomark _))
          (pss_cons (ps_expr (pe_meth (pv 0) T0.wr.C.cl T0.wr.put_record.me GR (hr.mono (by decide)) bR .nil pass0 (pa_cons pe_int pa_nil)))
          (pss_one (ps_expr (pe_bm PySem.F.plainAttrs_list PySem.F.slot_list_append PySem.F.type_list_append mt_append (pv 3) (pa_cons (pe_tup (pa_cons pe_str (pa_cons (pe_ix ix_tup (pv 8) pe_int (fun _ _ => rfl)) pa_nil))) pa_nil)))))
          (pss_one (ps_if (pt_cmpR op_eq (pv 6) pe_str (nomark _))
            (pss_cons (ps_expr (pe_meth (pv 0) T0.wr.C.cl T0.wr.put_record.me GR (hr.mono (by decide)) bR .nil pass0 (pa_cons pe_int pa_nil)))
            (pss_cons (ps_expr (pe_meth (pv 0) T0.wr.C.cl T0.wr.put_signs.me GS (hr.mono (by decide)) bS .nil pass0 (pa_cons pe_str pa_nil)))
            (pss_cons (ps_expr (pe_meth (pv 0) T0.wr.C.cl T0.wr.put_record.me GR (hr.mono (by decide)) bR .nil pass0 (pa_cons (pe_callB call_len (by rfl) T0.kd.len PySem.boot_len (pa_cons (pv 7) pa_nil)) pa_nil)))
            (pss_one (ps_expr (pe_bm PySem.F.plainAttrs_list PySem.F.slot_list_extend PySem.F.type_list_extend mt_extend (pv 3) (pa_cons (by exact (pe_revL (LZ.pe_listZip rfl (by rfl) T0.kd.list (by decide +kernel) (by rfl) T0.kd.zip (pa_cons (pv 7) (pa_cons (pv 8) pa_nil))))) pa_nil)))))))
            (pss_one (ps_expr (pe_meth (pv 0) T0.wr.C.cl T0.wr.put_text.me GT (hr.mono (by decide)) bT .nil pass0 (pa_cons (pv 6) pa_nil)))))))))))))))), ?_⟩)
  obtain ⟨wr, cl, k, b, T, o, i, rfl, W, B, hN, c1, c2, hi, hb, hks, kQ⟩ := h
  have natW := fun f h => T0.wr.n f h
  have natK := fun f h => T0.kd.n f h
  dsimp only [cxOf, Cx.nox]
  obtain ⟨⟨dw, hw⟩, hcl⟩ := id W
  refine ⟨_, rfl, (by show 2 ≤ sizeLine; rw [sizeLine_eq]; decide), fun R hR => ⟨(by show 1 ≤ sizeLine; rw [sizeLine_eq]; decide), fun wa hwa => ?_⟩⟩
  obtain ⟨wR, hwa0⟩ := none_upd hwa
  have sR := same_upd (o := HO.tup [V.str "", V.int (i : Int)]) hR
  have sW := same_upd (o := HO.lst [V.ref R]) hwa
  have S0 := sR.trans sW
  have clwa : cl ≠ wa := fun z => by rw [z, hwa0] at hcl; cases hcl
  refine ⟨fun m σ H' => ∃ c4 c5 c6 c7 c8 out stk, σ = [some (V.ref wr), some (V.ref k), some (V.int (i : Int)), some (V.ref wa), c4, c5, c6, c7, c8] ∧ PkSt P w K H H' wr cl k wa b T o i m out stk,
    ⟨_, none, none, none, none, none, [], [⟨R, [], i⟩], rfl, ⟨by rw [List.append_nil]; exact W.to S0, upd_same, fun e he => ?_, fun e he => ?_, ?_, rfl, ?_, SameX.of S0, hwa0, clwa, fun e he => ?_⟩⟩, ?_⟩
  · have : e = ⟨R, [], i⟩ := by simpa using he
    rw [this]
    exact sW _ _ upd_same
  · have : e = ⟨R, [], i⟩ := by simpa using he
    rw [this]
    exact hi
  · show [] ++ ([] ++ entB T ⟨R, [], i⟩) = _
    unfold entB
    rw [if_pos rfl]
    rfl
  · show ksize (kAt T i) + 0 ≤ _
    omega
  · have : e = ⟨R, [], i⟩ := by simpa using he
    rw [this]
    exact hN
  rintro m σ H1 ⟨c4, c5, c6, c7, c8, out, stk, rfl, A⟩
  obtain ⟨W1, hw1, ht1, lt1, ho1, ms1, sz1, sx1, wf1, _, kn1⟩ := id A
  rcases List.eq_nil_or_concat stk with hst | ⟨st0, e, hst⟩
  · subst hst
    refine ⟨_, rfl, false, .inl ⟨_, SqL.of hw1, rfl⟩, iteF ?_⟩
    have e1 : out = toldB (kAt T i) := by rw [← ho1]; show out = out ++ []; simp
    rw [e1] at W1
    exact kQ H1 sx1 W1
  · rw [List.concat_eq_append] at hst
    subst hst
    have hmap : ((st0 ++ [e]).map fun e => V.ref e.a) = (st0.map fun e => V.ref e.a) ++ [V.ref e.a] := by rw [List.map_append]; rfl
    rw [hmap] at hw1
    have hne : (!((st0.map fun e => V.ref e.a) ++ [V.ref e.a]).isEmpty) = true := by simp
    have hl2 : ((st0.map fun e => V.ref e.a) ++ [V.ref e.a])[((st0.map fun e => V.ref e.a) ++ [V.ref e.a]).length - 1]? = some (V.ref e.a) := by simp
    have hdl : ((st0.map fun e => V.ref e.a) ++ [V.ref e.a]).dropLast = st0.map fun e => V.ref e.a := List.dropLast_concat
    have hte := ht1 e (by simp)
    have hei := lt1 e (by simp)
    refine ⟨_, rfl, true, .inl ⟨_, SqL.of hw1, hne.symm⟩, iteT ⟨_, fun _ _ h => h, ?_⟩⟩
    dsimp only [tSeq, tAsg, tBM0, gTup, gCons, gNil, gName]
    refine ⟨_, rfl, .inl ⟨rfl, _, SqL.of hw1⟩, _, _, _, rfl, rfl, hw1, hl2, ?_⟩
    rw [hdl]
    have sU : SameX [wa] H1 (upd H1 wa (.lst (st0.map fun e => V.ref e.a))) := samex_upd (by simp)
    have hw2 : upd H1 wa (.lst (st0.map fun e => V.ref e.a)) wa = some (.lst (st0.map fun e => V.ref e.a)) := upd_same
    have tne : ∀ {x : Addr} {v : List V}, H1 x = some (.tup v) → x ≠ wa := fun h => ne_of h hw1 (fun z => nomatch z)
    have W2 : WrAt K (upd H1 wa (.lst (st0.map fun e => V.ref e.a))) wr cl (b ++ out) := by
      obtain ⟨⟨dx, q1⟩, q2⟩ := W1
      exact ⟨⟨dx, sU _ _ (by have := ne_of q1 hw1 (fun z => nomatch z); simpa using this) q1⟩, sU _ _ (by simpa using clwa) q2⟩
    refine ⟨e.a, _, rfl, SqT.of (sU _ _ (by simpa using tne hte) hte), rfl, _, _, rfl, _, _, rfl, rfl, ?_⟩
    have hlen : (b ++ out).length + (entB T e).length + (restB T st0).length = b.length + (toldB (kAt T i)).length := by
      rw [← ho1, restB_snoc]
      simp only [List.length_append]
      omega
    have hsig : (if e.nm = [] then ([] : Sw.Bytes) else sigB e.nm).length ≤ (entB T e).length := by
      unfold entB
      rw [List.length_append]
      omega
    have hsig2 : (sigB e.nm).length ≤ (entB T e).length + 1 := by
      by_cases z : e.nm = []
      · rw [z]
        show (Sw.vary 0 ++ []).length ≤ _
        rw [vary_small (by decide)]
        simp
      · rw [if_neg z] at hsig
        omega
    refine sig_step T0 rfl rfl W2 (by omega) (fun H3 s3 W3 => ?_)
    have sx3 : SameX [cl] H H3 := fun x u nx hx => s3 _ _ nx (sU _ _ (by
      have : x ≠ wa := fun z => by rw [z, wf1] at hx; cases hx
      simpa using this) (sx1 _ _ nx hx))
    have B3 : KTab P w K H3 k T o := B.toX sx3 (by
      obtain ⟨⟨dk, hk⟩, _⟩ := id B
      exact ne_of hk hcl (fun z => nomatch z)) (Ne.symm c1) (ne_of B.nums hcl (fun z => nomatch z)) (Ne.symm c2) (fun v z => by rw [hcl] at z; cases z)
    obtain ⟨⟨dk3, hk3⟩, hrows3, _⟩ := id B3
    obtain ⟨⟨dw3, hwr3⟩, hcl3⟩ := id W3
    have hw3 : H3 wa = some (.lst (st0.map fun e => V.ref e.a)) := s3 _ _ (by simpa using Ne.symm clwa) hw2
    have tup3 : ∀ {x : Addr} {v : List V}, H1 x = some (.tup v) → H3 x = some (.tup v) := fun h => s3 _ _ (by
      have : _ ≠ cl := ne_of h W1.codes (fun z => nomatch z)
      simpa using this) (sU _ _ (by simpa using tne h) h)
    obtain ⟨a1, b1, d1, r1, r2, r3, r4⟩ := B3.row hei
    have hmem : rowAt T e.i ∈ T := List.mem_of_getElem? (rowAt_eq hei)
    have hkm := kAt_mean B.wf hei
    have hok := B.wf.ok e.i _ (rowAt_eq hei)
    obtain ⟨hNm, hNp⟩ := kn_row (f := kAt T) hok (by rw [← hkm]; exact kn1 e (by simp))
    rw [names_str hNm] at r3
    have hkk := B.kok _ hmem
    have hsz : tsz T (st0 ++ [e]) = tsz T st0 + (ksize (kAt T e.i) + 0) := tsz_append T st0 [e]
    have hkp := ksize_pos (kAt T e.i)
    have fin : ∀ (H5 : Hp) (out5 : Sw.Bytes) (stk5 : List TEnt) (d4 d5 d6 d7 d8 : Option V), SameX [cl, wa] H3 H5 → WrAt K H5 wr cl (b ++ out5) → H5 wa = some (.lst (stk5.map fun e => V.ref e.a)) → (∀ e ∈ stk5, H5 e.a = some (.tup [V.str (asStr e.nm), V.int (e.i : Int)])) → (∀ e ∈ stk5, e.i < T.length) → (∀ e ∈ stk5, KN (kAt T e.i)) →
        out5 ++ restB T stk5 = toldB (kAt T i) → tsz T stk5 < tsz T (st0 ++ [e]) → ∃ m', m' < m ∧ ∃ c4 c5 c6 c7 c8 out stk, [some (V.ref wr), some (V.ref k), some (V.int (i : Int)), some (V.ref wa), d4, d5, d6, d7, d8] = [some (V.ref wr), some (V.ref k), some (V.int (i : Int)), some (V.ref wa), c4, c5, c6, c7, c8] ∧ PkSt P w K H H5 wr cl k wa b T o i m' out stk :=
      fun H5 out5 stk5 d4 d5 d6 d7 d8 sx5 W5 wl5 tup5 lt5 kn5 ho5 hs5 => ⟨tsz T stk5, by omega, d4, d5, d6, d7, d8, out5, stk5, rfl, ⟨W5, wl5, tup5, lt5, ho5, rfl, by omega, fun x u nx hx => sx5 _ _ (by
        have h1 : x ≠ wa := fun z => by rw [z, wf1] at hx; cases hx
        have h2 : x ≠ cl := by simpa using nx
        simp [h1, h2]) (sx3 _ _ nx hx), wf1, clwa, kn5⟩⟩
    have leaf : ∀ (H5 : Hp) (d4 d5 d6 d7 d8 : Option V), SameX [cl] H3 H5 → WrAt K H5 wr cl (b ++ out ++ entB T e) → ∃ m', m' < m ∧ ∃ c4 c5 c6 c7 c8 out stk, [some (V.ref wr), some (V.ref k), some (V.int (i : Int)), some (V.ref wa), d4, d5, d6, d7, d8] = [some (V.ref wr), some (V.ref k), some (V.int (i : Int)), some (V.ref wa), c4, c5, c6, c7, c8] ∧ PkSt P w K H H5 wr cl k wa b T o i m' out stk :=
      fun H5 d4 d5 d6 d7 d8 s5 W5 => fin H5 (out ++ entB T e) st0 d4 d5 d6 d7 d8 (s5.mono (by simp)) (by rw [← List.append_assoc]; exact W5) (s5 _ _ (by simpa using Ne.symm clwa) hw3) (fun x hx => s5 _ _ (by
          have q := tup3 (ht1 x (by simp [hx]))
          have : x.a ≠ cl := ne_of q hcl3 (fun z => nomatch z)
          simpa using this) (tup3 (ht1 x (by simp [hx])))) (fun x hx => lt1 x (by simp [hx])) (fun x hx => kn1 x (by simp [hx])) (by rw [List.append_assoc, ← restB_snoc]; exact ho1) (by omega)
    have hent : entB T e = (if e.nm = [] then [] else sigB e.nm) ++ toldB (kAt T e.i) := rfl
    dsimp only [tSeq, tAsg, tOp, gTup, gCons, gNil, gName]
    refine rdFld (i := 1) (by rfl) hk3 T0.kd.C.cl (natK _ (by simp)) (KO.l_rows _) ?_
    refine ⟨_, rfl, _, _, _, _, rfl, rfl, SqL.of hrows3, atI_nat r1, a1, _, rfl, SqT.of r2, rfl, _, _, rfl, _, _, rfl, _, _, rfl, rfl, ?_⟩
    have dn : ("nothing" : Str) ≠ "sort" ∧ ("nothing" : Str) ≠ "list" ∧ ("nothing" : Str) ≠ "record" ∧ ("list" : Str) ≠ "sort" ∧ ("record" : Str) ≠ "sort" ∧ ("record" : Str) ≠ "list" := by decide +kernel
    obtain ⟨dn1, dn2, dn3, dn4, dn5, dn6⟩ := dn
    dsimp only [tIfS, tTest, tOp]
    refine ⟨_, rfl, rfl, _, rfl, ?_⟩
    rw [dec_str]
    cases hrow : rowAt T e.i with
    | sort m' n' =>
      rw [decide_eq_true (show formS (.sort m' n') = "sort" from rfl)]
      refine iteT ?_
      rw [hrow] at r3 hkm hNm
      have p1 := (hNm m' (by simp [nameBytes])).1
      have p2 := (hNm n' (by simp [nameBytes])).1
      have ek : toldB (kAt T e.i) = sortB m' n' := by
        rw [hkm]
        exact told_sort p1.small p2.small
      rw [ek] at hent
      have hl3 := congrArg List.length hent
      rw [List.length_append] at hl3
      refine ⟨_, rfl, _, rfl, wr, cl, b1, b ++ out ++ (if e.nm = [] then [] else sigB e.nm), m', n', rfl, W3, r3, by rw [List.length_append (as := b ++ out)]; omega, fun H5 s5 W5 => leaf H5 _ _ _ _ _ s5 ?_⟩
      rw [hent, ← List.append_assoc]
      exact W5
    | nothing =>
      rw [decide_eq_false (show ¬ formS .nothing = "sort" from dn1)]
      refine iteF ⟨_, rfl, rfl, _, rfl, ?_⟩
      rw [dec_str, decide_eq_false (show ¬ formS .nothing = "list" from dn2)]
      refine iteF ⟨_, rfl, rfl, _, rfl, ?_⟩
      rw [dec_str, decide_eq_false (show ¬ formS .nothing = "record" from dn3)]
      refine iteF ?_
      rw [hrow] at hkm
      have ek : toldB (kAt T e.i) = txtB (Sw.ascii "nothing") := by
        rw [hkm]
        exact told_nothing
      rw [ek] at hent
      have hl3 := congrArg List.length hent
      have hl4 : (txtB (Sw.ascii "nothing")).length = (Sw.vary (Sw.ascii "nothing").length).length + (Sw.ascii "nothing").length + 1 := by unfold txtB sigB; simp
      rw [List.length_append, hl4] at hl3
      refine ⟨_, rfl, wr, dw3, _, rfl, hwr3, wrF_text, _, rfl, wr, cl, b ++ out ++ (if e.nm = [] then [] else sigB e.nm), Sw.ascii "nothing", by rw [← str_nothing]; rfl, W3, by rw [List.length_append (as := b ++ out)]; omega, fun H5 s5 W5 => leaf H5 _ _ _ _ _ s5 ?_⟩
      rw [hent, ← List.append_assoc]
      exact W5
    | plain q =>
      rw [decide_eq_false (show ¬ formS (.plain q) = "sort" from (plainS_ne q).2.2.2)]
      refine iteF ⟨_, rfl, rfl, _, rfl, ?_⟩
      rw [dec_str, decide_eq_false (show ¬ formS (.plain q) = "list" from (plainS_ne q).2.1)]
      refine iteF ⟨_, rfl, rfl, _, rfl, ?_⟩
      rw [dec_str, decide_eq_false (show ¬ formS (.plain q) = "record" from (plainS_ne q).2.2.1)]
      refine iteF ?_
      rw [hrow] at hkm hkk
      have hq : q < 6 := hkk
      have ek : toldB (kAt T e.i) = txtB (War.nth War.plainWords q) := by
        rw [hkm]
        exact told_plain hq
      rw [ek] at hent
      have hl3 := congrArg List.length hent
      have hl4 : (txtB (War.nth War.plainWords q)).length = (Sw.vary (War.nth War.plainWords q).length).length + (War.nth War.plainWords q).length + 1 := by unfold txtB sigB; simp
      rw [List.length_append, hl4] at hl3
      refine ⟨_, rfl, wr, dw3, _, rfl, hwr3, wrF_text, _, rfl, wr, cl, b ++ out ++ (if e.nm = [] then [] else sigB e.nm), War.nth War.plainWords q, by rw [← str_plain hq]; rfl, W3, by rw [List.length_append (as := b ++ out)]; omega, fun H5 s5 W5 => leaf H5 _ _ _ _ _ s5 ?_⟩
      rw [hent, ← List.append_assoc]
      exact W5
    | list p =>
      rw [decide_eq_false (show ¬ formS (.list p) = "sort" from dn4)]
      refine iteF ⟨_, rfl, rfl, _, rfl, ?_⟩
      rw [dec_str, decide_eq_true (show formS (.list p) = "list" from rfl)]
      refine iteT ?_
      rw [hrow] at hkm r4 hok
      have hp : p < e.i := hok.1 p (by simp [Rw.parts])
      have ek : toldB (kAt T e.i) = 6 :: (Sw.vary 1 ++ (sigB (Sw.ascii "list") ++ toldB (kAt T p))) := by
        rw [hkm]
        exact told_list _
      have es : ksize (kAt T e.i) = ksize (kAt T p) + 1 := by rw [hkm]; rfl
      rw [ek] at hent
      have hl3 := congrArg List.length hent
      simp only [List.length_append, List.length_cons] at hl3
      dsimp only [tSeq]
      refine ⟨_, rfl, wr, dw3, _, rfl, hwr3, wrF_record, wr, cl, b ++ out ++ (if e.nm = [] then [] else sigB e.nm), 1, rfl, W3, by rw [List.length_append (as := b ++ out)]; omega, fun H5 s5 W5 => ?_⟩
      have hw5 := s5 _ _ (by simpa using Ne.symm clwa) hw3
      have d1cl : d1 ≠ cl := ne_of r4 hcl3 (fun z => nomatch z)
      have hd5 := s5 _ _ (by simpa using d1cl) r4
      have hlen0 := tsz_len T (st0 ++ [e])
      rw [List.length_append, List.length_singleton] at hlen0
      dsimp only [tDrop, tBM]
      refine ⟨_, rfl, .inl ⟨rfl, _, SqL.of hw5⟩, ?_⟩
      refine ⟨_, rfl, _, _, _, V.int (p : Int), rfl, rfl, SqT.of hd5, rfl, (by show 2 ≤ sizeLine; rw [sizeLine_eq]; decide), fun R2 hR2 => ?_⟩
      have s6 := same_upd (o := HO.tup [V.str "list", V.int (p : Int)]) hR2
      have hw6 := s6 _ _ hw5
      refine ⟨wa, _, _, rfl, rfl, hw6, by rw [List.length_map, sizeLine_eq]; omega, ?_⟩
      have sF : SameX [wa] (upd H5 R2 (.tup [V.str "list", V.int (p : Int)])) (upd (upd H5 R2 (.tup [V.str "list", V.int (p : Int)])) wa (.lst ((st0.map fun e => V.ref e.a) ++ [V.ref R2]))) := samex_upd (by simp)
      have R2wa : R2 ≠ wa := fun z => by rw [z, hw5] at hR2; cases hR2
      refine fin _ (out ++ ((if e.nm = [] then [] else sigB e.nm) ++ 6 :: Sw.vary 1)) (st0 ++ [⟨R2, Sw.ascii "list", p⟩]) _ _ _ _ _ ((s5.mono (by simp)).trans ((SameX.of s6).trans (sF.mono (by simp)))) ?_ ?_ ?_ ?_ ?_ ?_ ?_
      · have q : WrAt K (upd H5 R2 (.tup [V.str "list", V.int (p : Int)])) wr cl (b ++ out ++ (if e.nm = [] then [] else sigB e.nm) ++ 6 :: Sw.vary 1) := W5.to s6
        obtain ⟨⟨dx, q1⟩, q2⟩ := q
        have e1 : b ++ (out ++ ((if e.nm = [] then [] else sigB e.nm) ++ 6 :: Sw.vary 1)) = b ++ out ++ (if e.nm = [] then [] else sigB e.nm) ++ 6 :: Sw.vary 1 := by simp only [List.append_assoc]
        rw [e1]
        exact ⟨⟨dx, sF _ _ (by have := ne_of q1 hw6 (fun z => nomatch z); simpa using this) q1⟩, sF _ _ (by simpa using clwa) q2⟩
      · rw [upd_same, List.map_append]; rfl
      · intro x hx
        rcases List.mem_append.mp hx with z | z
        · have q := tup3 (ht1 x (by simp [z]))
          have n1 : x.a ≠ cl := ne_of q hcl3 (fun z => nomatch z)
          have n2 : x.a ≠ wa := ne_of q hw3 (fun z => nomatch z)
          exact sF _ _ (by simpa using n2) (s6 _ _ (s5 _ _ (by simpa using n1) q))
        · have : x = ⟨R2, Sw.ascii "list", p⟩ := by simpa using z
          rw [this]
          show _ = some (HO.tup [V.str (asStr (Sw.ascii "list")), _])
          rw [← str_list]
          exact sF _ _ (by simpa using R2wa) upd_same
      · intro x hx
        rcases List.mem_append.mp hx with z | z
        · exact lt1 x (by simp [z])
        · have : x = ⟨R2, Sw.ascii "list", p⟩ := by simpa using z
          rw [this]
          exact Nat.lt_trans hp hei
      · intro x hx
        rcases List.mem_append.mp hx with z | z
        · exact kn1 x (by simp [z])
        · have : x = ⟨R2, Sw.ascii "list", p⟩ := by simpa using z
          rw [this]
          exact hNp p (by rw [hrow]; simp [Rw.parts])
      · rw [restB_snoc]
        have e2 : entB T ⟨R2, Sw.ascii "list", p⟩ = sigB (Sw.ascii "list") ++ toldB (kAt T p) := by
          unfold entB
          rw [if_neg (show ¬ Sw.ascii "list" = [] by decide)]
        rw [e2, ← ho1, restB_snoc, hent]
        simp only [List.append_assoc, List.cons_append]
      · rw [tsz_append]
        show tsz T st0 + (ksize (kAt T p) + 0) < _
        omega
    | record ns ps =>
      rw [decide_eq_false (show ¬ formS (.record ns ps) = "sort" from dn5)]
      refine iteF ⟨_, rfl, rfl, _, rfl, ?_⟩
      rw [dec_str, decide_eq_false (show ¬ formS (.record ns ps) = "list" from dn6)]
      refine iteF ⟨_, rfl, rfl, _, rfl, ?_⟩
      rw [dec_str, decide_eq_true (show formS (.record ns ps) = "record" from rfl)]
      refine iteT ?_
      rw [hrow] at hkm r4 hok hNm r3
      have hnp : ns.length = ps.length := hok.2 _ _ rfl
      have nne : ∀ n ∈ ns, n ≠ [] := fun n hn => (hNm n hn).2
      have ek : toldB (kAt T e.i) = 6 :: (Sw.vary 1 ++ (sigB (Sw.ascii "record") ++ (6 :: (Sw.vary ns.length ++ rowB (rowOf ns (ps.map (kAt T))))))) := by
        rw [hkm]
        have := told_record (rowOf ns (ps.map (kAt T)))
        rw [rowOf_len (by simpa using hnp)] at this
        exact this
      have es : ksize (kAt T e.i) = rsize (rowOf ns (ps.map (kAt T))) + 1 := by rw [hkm]; rfl
      rw [ek] at hent
      have hl3 := congrArg List.length hent
      simp only [List.length_append, List.length_cons] at hl3
      have hsl : (sigB (Sw.ascii "record")).length = (Sw.vary (Sw.ascii "record").length).length + (Sw.ascii "record").length := by unfold sigB; simp
      have hlen0 := tsz_len T (st0 ++ [e])
      rw [List.length_append, List.length_singleton] at hlen0
      dsimp only [tSeq]
      refine ⟨_, rfl, wr, dw3, _, rfl, hwr3, wrF_record, wr, cl, b ++ out ++ (if e.nm = [] then [] else sigB e.nm), 1, rfl, W3, by rw [List.length_append (as := b ++ out)]; omega, fun H4 s4 W4 => ?_⟩
      obtain ⟨⟨dw4, hwr4⟩, hcl4⟩ := id W4
      refine ⟨_, rfl, wr, dw4, _, rfl, hwr4, wrF_signs, wr, cl, _, Sw.ascii "record", by rw [← str_record]; rfl, W4, by simp only [List.length_append, List.length_cons] at hlen ⊢; omega, fun H5 s5 W5 => ?_⟩
      obtain ⟨⟨dw5, hwr5⟩, hcl5⟩ := id W5
      have r3' : H3 b1 = some (HO.tup ((ns.map asStr).map V.str)) := r3
      have r4' : H3 d1 = some (HO.tup (ps.map fun (p : Nat) => V.int ((p : Nat) : Int))) := r4
      have b1cl : b1 ≠ cl := ne_of r3 hcl3 (fun z => nomatch z)
      have d1cl : d1 ≠ cl := ne_of r4 hcl3 (fun z => nomatch z)
      have hb5 := s5 _ _ (by simpa using b1cl) (s4 _ _ (by simpa using b1cl) r3')
      have hd5 := s5 _ _ (by simpa using d1cl) (s4 _ _ (by simpa using d1cl) r4')
      refine ⟨_, rfl, wr, dw5, _, rfl, hwr5, wrF_record, _, rfl, _, ns.length, rfl, .inr ⟨_, SqT.of hb5, by simp⟩, wr, cl, _, ns.length, rfl, W5, by simp only [List.length_append, List.length_cons] at hlen ⊢; omega, fun H6 s6 W6 => ?_⟩
      have hb6 := s6 _ _ (by simpa using b1cl) hb5
      have hd6 := s6 _ _ (by simpa using d1cl) hd5
      have S6 : SameX [cl] H3 H6 := (s4.trans s5).trans s6
      have hw6 := S6 _ _ (by simpa using Ne.symm clwa) hw3
      dsimp only [tDrop, tBM]
      refine ⟨_, rfl, .inl ⟨rfl, _, SqL.of hw6⟩, ?_⟩
      refine ⟨_, rfl, _, rfl, b1, d1, _, _, rfl, SqT.of hb6, SqT.of hd6, by simp [hnp], fun H7 p ts same newp newts hl hlst pairs => ⟨p, _, rfl, SqL.of hlst, fun p2 hp2 => ?_⟩⟩
      have s8 := same_upd (o := HO.lst (ts.map V.ref).reverse) hp2
      have tl : ts.length = ns.length := by simpa using hl
      have hw8 := s8 _ _ (same _ _ hw6)
      have elen := congrArg List.length (fieldE_refs (as := ts) (ns := ns) (is := ps) tl hnp)
      have esz := fieldE_size T (as := ts) (ns := ns) (is := ps) tl hnp
      have eln := tsz_len T (fieldE ts ns ps)
      have hrefs := fieldE_refs (as := ts) (ns := ns) (is := ps) tl hnp
      have hp2v : upd H7 p2 (.lst (ts.map V.ref).reverse) p2 = some (.lst (ts.map V.ref).reverse) := upd_same
      refine ⟨wa, p2, _, _, rfl, rfl, hw8, hp2v, by rw [List.length_map] at elen; rw [List.length_map, sizeLine_eq, ← elen]; omega, ?_⟩
      have sF : SameX [wa] (upd H7 p2 (.lst (ts.map V.ref).reverse)) (upd (upd H7 p2 (.lst (ts.map V.ref).reverse)) wa (.lst ((st0.map fun e => V.ref e.a) ++ (ts.map V.ref).reverse))) := samex_upd (by simp)
      have same' : Same H6 H7 := same
      refine fin _ (out ++ ((if e.nm = [] then [] else sigB e.nm) ++ 6 :: (Sw.vary 1 ++ (sigB (Sw.ascii "record") ++ 6 :: Sw.vary ns.length)))) (st0 ++ fieldE ts ns ps) _ _ _ _ _ ((S6.mono (by simp)).trans (((SameX.of same').trans (SameX.of s8)).trans (sF.mono (by simp)))) ?_ ?_ ?_ ?_ ?_ ?_ ?_
      · have q := (W6.to same').to s8
        obtain ⟨⟨dx, q1⟩, q2⟩ := q
        have e1 : b ++ (out ++ ((if e.nm = [] then [] else sigB e.nm) ++ 6 :: (Sw.vary 1 ++ (sigB (Sw.ascii "record") ++ 6 :: Sw.vary ns.length)))) = b ++ out ++ (if e.nm = [] then [] else sigB e.nm) ++ 6 :: Sw.vary 1 ++ (Sw.vary (Sw.ascii "record").length ++ Sw.ascii "record") ++ 6 :: Sw.vary ns.length := by
          unfold sigB
          simp only [List.append_assoc, List.cons_append]
        rw [e1]
        exact ⟨⟨dx, sF _ _ (by have := ne_of q1 hw8 (fun z => nomatch z); simpa using this) q1⟩, sF _ _ (by simpa using clwa) q2⟩
      · rw [upd_same, List.map_append, hrefs]
      · intro x hx
        rcases List.mem_append.mp hx with z | z
        · have q := tup3 (ht1 x (by simp [z]))
          have n1 : x.a ≠ cl := ne_of q hcl3 (fun z => nomatch z)
          have n2 : x.a ≠ wa := ne_of q hw3 (fun z => nomatch z)
          exact sF _ _ (by simpa using n2) (s8 _ _ (same' _ _ (S6 _ _ (by simpa using n1) q)))
        · have q := pairs _ (zip_field (mem_field z))
          have q2 := s8 _ _ q
          exact sF _ _ (by have := ne_of q2 hw8 (fun z => nomatch z); simpa using this) q2
      · intro x hx
        rcases List.mem_append.mp hx with z | z
        · exact lt1 x (by simp [z])
        · have q := (List.of_mem_zip (mem_field z)).2
          have q2 := (List.of_mem_zip q).2
          exact Nat.lt_trans (hok.1 _ (by simpa [Rw.parts] using q2)) hei
      · intro x hx
        rcases List.mem_append.mp hx with z | z
        · exact kn1 x (by simp [z])
        · have q := (List.of_mem_zip (mem_field z)).2
          have q2 := (List.of_mem_zip q).2
          exact hNp _ (by rw [hrow]; simpa [Rw.parts] using q2)
      · rw [← ho1, restB_snoc, hent]
        have e2 : restB T (st0 ++ fieldE ts ns ps) = rowB (rowOf ns (ps.map (kAt T))) ++ restB T st0 := by
          rw [restB_append, fieldE_rest T tl hnp nne]
        rw [e2]
        simp only [List.append_assoc, List.cons_append]
      · rw [tsz_append, esz]
        omega
end
end Hs
end
section
set_option Elab.async false
set_option linter.all false
set_option maxRecDepth 100000
set_option maxHeartbeats 4000000
namespace Hs
open PySem PySem.Spec PyProof.Rows L2 Kt Nest Tl
section
variable {P : Program} {w : World} {K : PySem.W.Frag} {mg : Str → Option Value} {base : Heap}
def spWrInit (K : PySem.W.Frag) : Sp := fun vs H Q _ => ∃ (x dx : Addr), vs = [.ref x] ∧ H x = some (.ins (CW K) dx []) ∧
  ∀ H' cl, SameX [x] H H' → H' x = some (.ins (CW K) dx (wrF cl)) → H' cl = some (.lst []) → H cl = none → Q .non H'
theorem ok_wrInit (T : TWr K mg) : FnOk P w K mg base CX0 1 (ma K "Writer" "__init__") (fdA K (ma K "Writer" "__init__")) ["self"] (spWrInit K) := by
  refine T.I.f.ok sc_Writer___init__ (fun vs H Q E h => by obtain ⟨_, _, rfl, _⟩ := h; rfl) (fun cdv A outer s H vs Q E hr h => ⟨_, PSs.nox
    (pss_one (ps_fld (pv 0) (pe_lst pa_nil) rfl)), ?_⟩)
  obtain ⟨x, dx, rfl, hx, kQ⟩ := h
  refine ⟨nil_le, fun cl h1 => ?_⟩
  have xcl : x ≠ cl := fun z => by rw [← z, hx] at h1; cases h1
  refine ⟨_, rfl, x, _, dx, _, rfl, (same_upd h1) _ _ hx, T.C.cl, T.n _ (by simp), by decide, ?_⟩
  refine kQ _ cl ((SameX.of (same_upd h1)).trans (samex_upd (by simp))) upd_same ?_ h1
  rw [upd_ne (Ne.symm xcl), upd_same]
def spTold (P : Program) (w : World) (K : PySem.W.Frag) : Sp := fun vs H Q _ => ∃ (k : Addr) (T : List Rw) (o : KO) (i : Nat), vs = [.ref k, .int (i : Int)] ∧ KTab P w K H k T o ∧ KN (kAt T i) ∧ i < T.length ∧ (toldB (kAt T i)).length < 2000000 ∧ ksize (kAt T i) < 1000000 ∧
  ∀ H' l, Same H H' → H' l = some (.lst (byV (toldB (kAt T i)))) → H l = none → Q (.ref l) H'
theorem ok_kind_told (T0 : TTl K mg) : FnOk P w K mg base CX0 6 (ga K "kind_told") (fdA K (ga K "kind_told")) ["kinds", "kind"] (spTold P w K) := by
  have GI : FnOk P w K mg base CX0 1 (ma K "Writer" "__init__") (fdA K (ma K "Writer" "__init__")) ["self"] (spWrInit K) := ok_wrInit T0.wr
  have bI := b_Writer___init__ T0.wr.I.f
  have GP : FnOk P w K mg base CX0 5 (ga K "put_kind") (fdA K (ga K "put_kind")) ["writer", "kinds", "kind"] (spPutKind P w K) := ok_put_kind T0
  have bP := b_put_kind T0.put_kind.f
  refine T0.kind_told.f.ok sc_kind_told (fun vs H Q E h => by obtain ⟨_, _, _, _, rfl, _⟩ := h; rfl) (fun cdv A outer s H vs Q E hr h => ⟨_, PSs.nox
    (pss_cons (ps_set (i := 2) sc_kind_told.nd rfl (Or.inl rfl) (by exact (pe_make0 T0.wr.C.mkr GI (hr.mono (by decide)) rfl T0.wr.C.g bI .nil pass0)))
    (pss_cons (ps_expr (pe_call GP hr rfl T0.put_kind.g T0.put_kind.kp bP .nil pass0 (pa_cons (pv 2) (pa_cons (pv 0) (pa_cons (pv 1) pa_nil)))))
    (pss_one (ps_ret (pe_fld (pv 2) rfl))))), ?_⟩)
  obtain ⟨k, T, o, i, rfl, B, hN, hi, hb, hks, kQ⟩ := h
  have natW := fun f h => T0.wr.n f h
  dsimp only [cxOf, Cx.nox]
  intro x dx hx hdx hdxx
  have s1 : Same H (upd (upd H dx (.own x)) x (.ins (CW K) dx [])) := fun b u hb => by
    rw [upd_ne (fun z => by rw [z, hx] at hb; cases hb), upd_ne (fun z => by rw [z, hdx] at hb; cases hb)]
    exact hb
  refine ⟨x, dx, rfl, upd_same, fun H2 cl s2 h2 h3 h4 => ⟨rfl, ?_⟩⟩
  have hclx : cl ≠ x := fun z => by rw [z, upd_same] at h4; cases h4
  have cl0 : H cl = none := by
    rw [upd_ne hclx] at h4
    by_cases e : cl = dx
    · rw [e]; exact hdx
    · rw [upd_ne e] at h4; exact h4
  have S2 : Same H H2 := fun b u hb => s2 _ _ (by
    have : b ≠ x := fun z => by rw [z, hx] at hb; cases hb
    simpa using this) (s1 _ _ hb)
  have B2 : KTab P w K H2 k T o := B.to (SameX.of S2)
  refine ⟨_, rfl, _, rfl, _, rfl, x, cl, k, [], T, o, i, rfl, ⟨⟨dx, h2⟩, h3⟩, B2, hN, (fun z => by have q := B.rows; rw [← z, cl0] at q; cases q), (fun z => by have q := B.hol; rw [← z, cl0] at q; cases q), hi, by simpa using (show (toldB (kAt T i)).length < 3000000 by omega), hks, fun H3 s3 W3 => ?_⟩
  have S3 : Same H H3 := fun b u hb => s3 _ _ (by
    have : b ≠ cl := fun z => by rw [z, cl0] at hb; cases hb
    simpa using this) (S2 _ _ hb)
  obtain ⟨⟨dw, q1⟩, q2⟩ := W3
  refine rdFld (i := 2) (by rfl) q1 T0.wr.C.cl (natW _ (by simp)) wrF_codes ?_
  exact kQ H3 cl S3 q2 cl0
end
end Hs
end
section
set_option Elab.async false
set_option linter.all false
namespace Tl
open Sw War Kt
/-! ### how long a told kind is -/
theorem toldB_pos (k : K) : 0 < (toldB k).length := Rd.enc_pos _
mutual
theorem ksize_le : ∀ k : K, ksize k ≤ (toldB k).length
  | .nothing => toldB_pos _
  | .plain k => toldB_pos _
  | .sort m n => toldB_pos _
  | .list k => by
    have ih := ksize_le k
    rw [told_list, ksize]
    simp only [List.length_cons, List.length_append]
    omega
  | .record l => by
    have ih := rsize_le l
    rw [told_record, ksize]
    simp only [List.length_cons, List.length_append]
    omega
theorem rsize_le : ∀ l : KRow, rsize l ≤ (rowB l).length
  | .nil => by rw [rsize]; exact Nat.zero_le _
  | .cons n k r => by
    have h1 := ksize_le k
    have h2 := rsize_le r
    rw [rsize, rowB]
    simp only [List.length_append]
    omega
end
mutual
theorem kcost_le : ∀ a b : K, kcost a b ≤ 3 * ksize a
  | .list a, .list b => by
    have ih := kcost_le a b
    rw [kcost, ksize]
    omega
  | .record a, .record b => by
    have ih := rcost_le a b
    rw [kcost, ksize]
    omega
  | .nothing, _ => by rw [kcost, ksize] <;> simp
  | .plain _, _ => by rw [kcost, ksize] <;> simp
  | .sort _ _, _ => by rw [kcost, ksize] <;> simp
  | .list a, .nothing => by have := ksize_pos a; rw [kcost, ksize] <;> first | omega | simp
  | .list a, .plain _ => by have := ksize_pos a; rw [kcost, ksize] <;> first | omega | simp
  | .list a, .record _ => by have := ksize_pos a; rw [kcost, ksize] <;> first | omega | simp
  | .list a, .sort _ _ => by have := ksize_pos a; rw [kcost, ksize] <;> first | omega | simp
  | .record a, .nothing => by rw [kcost, ksize] <;> first | omega | simp
  | .record a, .plain _ => by rw [kcost, ksize] <;> first | omega | simp
  | .record a, .list _ => by rw [kcost, ksize] <;> first | omega | simp
  | .record a, .sort _ _ => by rw [kcost, ksize] <;> first | omega | simp
theorem rcost_le : ∀ a b : KRow, rcost a b ≤ 3 * rsize a
  | .cons _ a r, .cons _ b s => by
    have h1 := kcost_le a b
    have h2 := rcost_le r s
    rw [rcost, rsize]
    omega
  | .nil, _ => by rw [rcost] <;> simp
  | .cons _ _ _, .nil => by rw [rcost] <;> simp
end
theorem row_len_agree : ∀ (a b c : KRow), a.agree b = some c → c.length = a.length
  | .nil, .nil, c, h => by
    rw [KRow.agree] at h
    injection h with h
    rw [← h]
  | .nil, .cons _ _ _, c, h => by rw [KRow.agree] at h <;> first | cases h | simp
  | .cons _ _ _, .nil, c, h => by rw [KRow.agree] at h <;> first | cases h | simp
  | .cons n a r, .cons m b s, c, h => by
    rw [KRow.agree] at h
    split at h
    · cases e1 : a.agree b with
      | none => rw [e1] at h; cases h
      | some d =>
        rw [e1] at h
        dsimp only at h
        cases e2 : r.agree s with
        | none => rw [e2] at h; cases h
        | some t =>
          rw [e2] at h
          have : c = .cons n d t := by injection h with h; exact h.symm
          have ih := row_len_agree r s t e2
          rw [this]
          show t.length + 1 = r.length + 1
          rw [ih]
    · cases h
mutual
/-- what two kinds agree on is no longer than both -/
theorem agree_len : ∀ (a b c : K), a.agree b = some c → (toldB c).length ≤ (toldB a).length + (toldB b).length
  | .nothing, b, c, h => by
    rw [nothing_left] at h
    injection h with h
    rw [← h]
    exact Nat.le_add_left _ _
  | a, .nothing, c, h => by
    rw [nothing_right] at h
    injection h with h
    rw [← h]
    exact Nat.le_add_right _ _
  | .plain a, .plain b, c, h => by
    rw [K.agree] at h
    · split at h
      · injection h with h; rw [← h]; exact Nat.le_add_right _ _
      · cases h
    all_goals simp
  | .list a, .list b, c, h => by
    rw [K.agree] at h
    · cases e : a.agree b with
      | none => rw [e] at h; cases h
      | some d =>
        rw [e] at h
        have : c = .list d := by injection h with h; exact h.symm
        have ih := agree_len a b d e
        rw [this, told_list, told_list, told_list]
        simp only [List.length_cons, List.length_append]
        omega
    all_goals simp
  | .record a, .record b, c, h => by
    rw [K.agree] at h
    · cases e : a.agree b with
      | none => rw [e] at h; cases h
      | some d =>
        rw [e] at h
        have : c = .record d := by injection h with h; exact h.symm
        have ih := agreeR_len a b d e
        have hl := row_len_agree a b d e
        rw [this, told_record, told_record, told_record, hl]
        simp only [List.length_cons, List.length_append]
        omega
    all_goals simp
  | .sort a b, .sort p q, c, h => by
    rw [K.agree] at h
    · split at h
      · injection h with h; rw [← h]; exact Nat.le_add_right _ _
      · cases h
    all_goals simp
  | .plain a, .list b, c, h => by rw [K.agree] at h <;> first | cases h | simp
  | .plain a, .record b, c, h => by rw [K.agree] at h <;> first | cases h | simp
  | .plain a, .sort b b', c, h => by rw [K.agree] at h <;> first | cases h | simp
  | .list a, .plain b, c, h => by rw [K.agree] at h <;> first | cases h | simp
  | .list a, .record b, c, h => by rw [K.agree] at h <;> first | cases h | simp
  | .list a, .sort b b', c, h => by rw [K.agree] at h <;> first | cases h | simp
  | .record a, .plain b, c, h => by rw [K.agree] at h <;> first | cases h | simp
  | .record a, .list b, c, h => by rw [K.agree] at h <;> first | cases h | simp
  | .record a, .sort b b', c, h => by rw [K.agree] at h <;> first | cases h | simp
  | .sort a a', .plain b, c, h => by rw [K.agree] at h <;> first | cases h | simp
  | .sort a a', .list b, c, h => by rw [K.agree] at h <;> first | cases h | simp
  | .sort a a', .record b, c, h => by rw [K.agree] at h <;> first | cases h | simp
theorem agreeR_len : ∀ (a b c : KRow), a.agree b = some c → (rowB c).length ≤ (rowB a).length + (rowB b).length
  | .nil, .nil, c, h => by
    rw [KRow.agree] at h
    injection h with h
    rw [← h]
    exact Nat.le_add_right _ _
  | .nil, .cons _ _ _, c, h => by rw [KRow.agree] at h <;> first | cases h | simp
  | .cons _ _ _, .nil, c, h => by rw [KRow.agree] at h <;> first | cases h | simp
  | .cons n a r, .cons m b s, c, h => by
    rw [KRow.agree] at h
    split at h
    · cases e1 : a.agree b with
      | none => rw [e1] at h; cases h
      | some d =>
        rw [e1] at h
        dsimp only at h
        cases e2 : r.agree s with
        | none => rw [e2] at h; cases h
        | some t =>
          rw [e2] at h
          have : c = .cons n d t := by injection h with h; exact h.symm
          have i1 := agree_len a b d e1
          have i2 := agreeR_len r s t e2
          rw [this, rowB, rowB, rowB]
          simp only [List.length_append]
          omega
    · cases h
end
end Tl
end
section
set_option Elab.async false
set_option linter.all false
set_option maxRecDepth 100000
set_option maxHeartbeats 1000000
namespace Hs
open PySem PySem.Spec PyProof.Rows L2 Kt Nest Tl
theorem inName_plain {c : UInt8} (h : Sw.inName c = true) : c.toNat ∈ plainL := by
  have e : ∀ c : Fin 256, Sw.inName (UInt8.ofNat c.val) = true → c.val ∈ plainL := by rw [plainL_eq]; decide +kernel
  have hc : c.toNat < 256 := c.toNat_lt
  exact e ⟨c.toNat, hc⟩ (by
    have : UInt8.ofNat c.toNat = c := UInt8.ofNat_toNat
    rw [this]
    exact h)
theorem name_good {n : Sw.Bytes} (h : War.isName n = true) : PlB n ∧ n ≠ [] := by
  unfold War.isName at h
  rw [Bool.and_eq_true] at h
  have hb := h.1
  unfold Sw.bare at hb
  cases n with
  | nil => cases hb
  | cons c r =>
    dsimp only at hb
    rw [Bool.and_eq_true] at hb
    refine ⟨fun x hx => ?_, fun z => by cases z⟩
    rcases List.mem_cons.mp hx with z | z
    · rw [z]
      exact inName_plain (by unfold Sw.inName; rw [hb.1]; rfl)
    · exact inName_plain (List.all_eq_true.mp hb.2 x z)
theorem nameIn_some {v : Sw.Value} {a : Sw.Bytes} (h : War.nameIn v = some a) : ∃ t, v = .text t ∧ Sw.utf8 t = a ∧ War.isName a = true := by
  unfold War.nameIn War.textIs at h
  cases v with
  | text t =>
    dsimp only at h
    split at h
    · rename_i q
      injection h with h
      exact ⟨t, rfl, h, by rw [← h]; exact q⟩
    · cases h
  | _ => cases h
theorem text_enc (t : List Nat) : (Sw.Value.text t).enc = txtB (Sw.utf8 t) := by rw [Sw.Value.enc]; rfl
theorem plain_some {b : Sw.Bytes} {k : War.K} (h : (War.plainWords.findIdx? fun (x : Sw.Bytes) => x == b).map War.K.plain = some k) : ∃ i, i < 6 ∧ k = .plain i ∧ War.nth War.plainWords i = b := by
  obtain ⟨i, hi, e⟩ := Option.map_eq_some_iff.mp h
  rw [List.findIdx?_eq_some_iff_getElem] at hi
  obtain ⟨h1, h2, _⟩ := hi
  refine ⟨i, h1, e.symm, ?_⟩
  unfold War.nth
  rw [List.getD_eq_getElem?_getD, List.getElem?_eq_getElem h1]
  exact eq_of_beq h2
def TK (v : Sw.Value) (k : War.K) : Prop := toldB k = v.enc ∧ KN k
def TR (m : Sw.Row) (l : War.KRow) : Prop := rowB l = m.enc true ∧ l.length = m.length ∧ ((∀ n ∈ m.names, War.isName n = true) → RN l)
theorem told_both : ∀ N : Nat, (∀ v k, sizeOf v ≤ N → War.toldKind v = some k → TK v k) ∧ ∀ m l, sizeOf m ≤ N → War.toldRow m = some l → TR m l := by
  intro N
  induction N with
  | zero => exact ⟨fun v k h => by cases v <;> simp at h, fun m l h => by cases m <;> simp at h⟩
  | succ N ih =>
    obtain ⟨ihv, ihr⟩ := ih
    refine ⟨fun v k hz h => ?_, fun m l hz h => ?_⟩
    · cases v with
      | text t =>
        rw [War.toldKind] at h
        split at h
        · rename_i q
          injection h with h
          rw [← h]
          refine ⟨by rw [told_nothing, text_enc, q], ?_⟩
          rw [KN] <;> simp
        · obtain ⟨i, hi, e, q⟩ := plain_some h
          rw [e]
          refine ⟨by rw [told_plain hi, text_enc, q], ?_⟩
          rw [KN] <;> simp
      | rec_ m =>
        cases m with
        | nil => rw [War.toldKind] at h <;> first | cases h | simp
        | cons n v r =>
          cases r with
          | nil =>
            rw [War.toldKind.eq_def] at h
            dsimp only at h
            have hsv : sizeOf v ≤ N := by simp at hz; omega
            split at h
            · rename_i q
              obtain ⟨x, hx, e⟩ := Option.map_eq_some_iff.mp h
              obtain ⟨t1, t2⟩ := ihv v x hsv hx
              rw [← e]
              refine ⟨?_, by rw [KN]; exact t2⟩
              rw [told_list, Sw.Value.enc, Sw.Row.enc, Sw.Row.enc, if_pos rfl, List.append_nil, t1, q]
              rfl
            · split at h
              · rename_i q
                split at h
                · rename_i m
                  split at h
                  · rename_i hn
                    obtain ⟨x, hx, e⟩ := Option.map_eq_some_iff.mp h
                    have hsm : sizeOf m ≤ N := by simp at hsv; omega
                    obtain ⟨t1, t2, t3⟩ := ihr m x hsm hx
                    rw [← e]
                    refine ⟨?_, by rw [KN]; exact t3 (List.all_eq_true.mp hn)⟩
                    rw [told_record, Sw.Value.enc, Sw.Row.enc, Sw.Row.enc, if_pos rfl, List.append_nil, Sw.Value.enc, t1, t2, q]
                    rfl
                  · cases h
                · cases h
              · cases h
          | cons k2 w r =>
            cases r with
            | nil =>
              rw [War.toldKind.eq_def] at h
              dsimp only at h
              split at h
              · rename_i q
                split at h
                · rename_i a b h1 h2
                  obtain ⟨t1, e1, e2, e3⟩ := nameIn_some h1
                  obtain ⟨u1, g1, g2, g3⟩ := nameIn_some h2
                  have p1 := name_good e3
                  have p2 := name_good g3
                  injection h with h
                  rw [← h]
                  refine ⟨?_, by rw [KN]; exact ⟨p1, p2⟩⟩
                  rw [told_sort p1.1.small p2.1.small, Sw.Value.enc, Sw.Row.enc, Sw.Row.enc, Sw.Row.enc, if_pos rfl, if_pos rfl, List.append_nil, e1, g1, text_enc, text_enc, e2, g2, q.1, q.2]
                  show sortB a b = 6 :: (Sw.vary 2 ++ (sigB (Sw.ascii "in") ++ (txtB a ++ (sigB (Sw.ascii "sort") ++ txtB b))))
                  unfold sortB
                  simp
                · cases h
              · cases h
            | cons _ _ _ => rw [War.toldKind.eq_def] at h; cases h
      | _ => rw [War.toldKind.eq_def] at h; cases h
    · cases m with
      | nil =>
        rw [War.toldRow] at h
        injection h with h
        rw [← h]
        refine ⟨by rw [rowB, Sw.Row.enc], rfl, fun _ => by rw [RN]; trivial⟩
      | cons n v r =>
        rw [War.toldRow.eq_def] at h
        dsimp only at h
        cases e1 : War.toldKind v with
        | none => rw [e1] at h; cases h
        | some x =>
          rw [e1] at h
          dsimp only at h
          obtain ⟨y, hy, e⟩ := Option.map_eq_some_iff.mp h
          obtain ⟨t1, t2⟩ := ihv v x (by simp at hz; omega) e1
          obtain ⟨r1, r2, r3⟩ := ihr r y (by simp at hz; omega) hy
          rw [← e]
          refine ⟨?_, ?_, fun hn => ?_⟩
          · rw [rowB, Sw.Row.enc, if_pos rfl, t1, r1]
            rfl
          · show y.length + 1 = r.length + 1
            rw [r2]
          · rw [RN]
            exact ⟨name_good (hn n (by show n ∈ n :: r.names; simp)), t2, r3 fun x hx => hn x (by show x ∈ n :: r.names; simp [hx])⟩
theorem told_enc {v : Sw.Value} {k : War.K} (h : War.toldKind v = some k) : toldB k = v.enc := ((told_both _).1 v k (Nat.le_refl _) h).1
theorem told_kn {v : Sw.Value} {k : War.K} (h : War.toldKind v = some k) : KN k := ((told_both _).1 v k (Nat.le_refl _) h).2
end Hs
end
section
set_option Elab.async false
set_option linter.all false
set_option maxRecDepth 100000
set_option maxHeartbeats 2000000
namespace Hs
open PySem PySem.Spec PyProof.Rows L2 Kt Nest Tl
theorem kw_asStr : kwS.all (fun w => War.keywords.any fun k => decide (w = asStr k)) = true := by decide +kernel
theorem asStr_kw : War.keywords.all (fun k => kwS.contains (asStr k)) = true := by decide +kernel
theorem kw_contains (n : Sw.Bytes) : kwS.contains (asStr n) = War.keywords.contains n := by
  rw [Bool.eq_iff_iff, List.contains_iff_mem, List.contains_iff_mem]
  refine ⟨fun h => ?_, fun h => ?_⟩
  · have q := List.all_eq_true.mp kw_asStr _ h
    obtain ⟨k, hk, e⟩ := List.any_eq_true.mp q
    rw [asStr_inj (of_decide_eq_true e)]
    exact hk
  · exact List.contains_iff_mem.mp (List.all_eq_true.mp asStr_kw _ h)
def furL : List Nat := smallT.cps.toList ++ figT.cps.toList ++ [95]
theorem small_mem (c : UInt8) : decide (c.toNat ∈ smallT.cps.toList) = Sw.isSmall c := by
  have e : ∀ c : Fin 256, decide (c.val ∈ smallT.cps.toList) = Sw.isSmall (UInt8.ofNat c.val) := by decide +kernel
  have q := e ⟨c.toNat, c.toNat_lt⟩
  rw [show UInt8.ofNat c.toNat = c from UInt8.ofNat_toNat] at q
  exact q
theorem fur_mem (c : UInt8) : decide (c.toNat ∈ furL) = Sw.inName c := by
  have e : ∀ c : Fin 256, decide (c.val ∈ furL) = Sw.inName (UInt8.ofNat c.val) := by decide +kernel
  have q := e ⟨c.toNat, c.toNat_lt⟩
  rw [show UInt8.ofNat c.toNat = c from UInt8.ofNat_toNat] at q
  exact q
theorem all_fur : ∀ n : Sw.Bytes, ((n.map UInt8.toNat).all fun x => decide (x ∈ furL)) = n.all Sw.inName
  | [] => rfl
  | c :: n => by
    rw [List.map_cons, List.all_cons, List.all_cons, all_fur n, fur_mem]
theorem tok_bytes (n : Sw.Bytes) : tokB (n.map UInt8.toNat) smallT.cps.toList furL = (Sw.bare n && decide (n.length ≤ War.WORD)) := by
  cases n with
  | nil => rfl
  | cons c n =>
    show (decide (((c :: n).map UInt8.toNat).length ≤ 64) && (decide (c.toNat ∈ smallT.cps.toList) && (((c :: n).map UInt8.toNat).all fun x => decide (x ∈ furL)))) = ((Sw.isSmall c && n.all Sw.inName) && decide ((c :: n).length ≤ 64))
    rw [all_fur, small_mem, List.length_map, List.all_cons]
    have : Sw.isSmall c = true → Sw.inName c = true := fun h => by unfold Sw.inName; rw [h]; rfl
    cases h1 : Sw.isSmall c with
    | false => simp
    | true => rw [this h1]; simp [Bool.and_comm]
theorem name_plain {n : Sw.Bytes} (h : PlB n) : nameS (spell n) = War.isName n := by
  rw [spell_plain h]
  unfold nameS War.isName
  have e : (asStr n).cps.toList = n.map UInt8.toNat := rfl
  rw [kw_contains, e]
  show (!War.keywords.contains n && tokB (n.map UInt8.toNat) smallT.cps.toList furL) = _
  rw [tok_bytes]
  cases Sw.bare n <;> cases decide (n.length ≤ War.WORD) <;> cases War.keywords.contains n <;> rfl
theorem name_odd {n : Sw.Bytes} (h : ¬ PlB n) : nameS (spell n) = War.isName n := by
  have h1 : War.isName n = false := by
    cases e : War.isName n with
    | false => rfl
    | true => exact absurd (name_good e).1 h
  rw [h1]
  have : ∃ c ∈ n, c.toNat ∉ plainL := by
    by_cases q : ∃ c ∈ n, c.toNat ∉ plainL
    · exact q
    · exact absurd (fun c hc => by
        by_cases z : c.toNat ∈ plainL
        · exact z
        · exact absurd ⟨c, hc, z⟩ q) h
  obtain ⟨c, hc, hp⟩ := this
  have h35 : 35 ∈ (spell n).cps.toList := by
    rw [spell_codes, List.mem_flatMap]
    refine ⟨c, hc, ?_⟩
    unfold sp1L
    rw [if_neg (by rw [List.contains_iff_mem]; exact hp)]
    exact List.mem_cons_self
  unfold nameS
  have : tokB (spell n).cps.toList smallT.cps.toList furL = false := by
    cases e : (spell n).cps.toList with
    | nil => rfl
    | cons x r =>
      rw [e] at h35
      have hall : ((x :: r).all fun y => decide (y ∈ furL)) = false := by
        rw [List.all_eq_false]
        exact ⟨35, h35, by decide +kernel⟩
      show (decide _ && (decide _ && ((x :: r).all fun y => decide (y ∈ furL)))) = false
      rw [hall, Bool.and_false, Bool.and_false]
  show (_ && tokB (spell n).cps.toList smallT.cps.toList furL) = false
  rw [this, Bool.and_false]
/-- a spelled text is a name as the document's names are -/
theorem name_spell (n : Sw.Bytes) : nameS (spell n) = War.isName n := by
  by_cases h : PlB n
  · exact name_plain h
  · exact name_odd h
end Hs
end
section
set_option Elab.async false
set_option linter.all false
namespace Tl
open Sw War Kt
theorem text_bytes (b : Bytes) : ProgramsNeutral.text (b.map fun (c : UInt8) => ((c.toNat : Nat) : Int)) = b := by
  unfold ProgramsNeutral.text
  rw [List.map_map]
  conv => rhs; rw [← List.map_id b]
  refine List.map_congr_left fun c _ => ?_
  show UInt8.ofNat (((c.toNat : Nat) : Int).toNat) = c
  rw [Int.toNat_natCast]
  exact UInt8.ofNat_toNat
/-- a value's bytes are the bytes that it was read of -/
theorem decode_enc {b : Bytes} {v : Value} (h : decode b = .ok v) : v.enc = b := by
  rw [Rd.decode_eq] at h
  cases e : Rd.vAt 1 0 b with
  | error x => rw [e] at h; cases h
  | ok q =>
    obtain ⟨u, n⟩ := q
    rw [e] at h
    dsimp only at h
    split at h
    · cases h
    · rename_i hn
      injection h with h
      subst h
      obtain ⟨h1, h2, h3, h4⟩ := Rd.val_enc (f := 2 * b.length) e
      have : n = b.length := by omega
      rw [this, List.take_length] at h2
      exact h2.symm
def toInts (b : Bytes) : List Int := b.map fun (c : UInt8) => ((c.toNat : Nat) : Int)
/-- what's due of two told kinds -/
theorem due_agree {a b : Bytes} (ha : a.length ≤ 8192) (hb : b.length ≤ 8192) : PyYqswja.agree (toInts a) (toInts b) = match decode a, decode b with
    | .ok v, .ok w => (match toldKind v, toldKind w with
      | some x, some y => (match x.agree y with
        | some k => 0 :: toInts (toldB k)
        | none => [-9])
      | _, _ => [-5])
    | _, _ => [-6] := by
  unfold PyYqswja.agree ProgramsNeutral.f
  show (match some (Programs.Call.agree (ProgramsNeutral.text (toInts a)) (ProgramsNeutral.text (toInts b))) with
    | some x => ProgramsNeutral.told (Programs.answer x)
    | none => []) = _
  dsimp only
  unfold toInts
  rw [text_bytes, text_bytes]
  unfold Programs.answer
  dsimp only
  rw [if_neg (by unfold MOST; omega)]
  cases decode a with
  | error e => rfl
  | ok v => cases decode b with
    | error e => rfl
    | ok w =>
      dsimp only
      cases toldKind v with
      | none => rfl
      | some x => cases toldKind w with
        | none => rfl
        | some y =>
          dsimp only
          cases x.agree y with
          | none => rfl
          | some k => rfl
end Tl
end
section
set_option Elab.async false
set_option linter.all false
namespace Rd
open Sw
theorem deep_leaf {v : Value} (h5 : v.kind ≠ 5) (h6 : v.kind ≠ 6) : v.deep = 1 := by
  cases v with
  | list m => exact absurd rfl h5
  | rec_ m => exact absurd rfl h6
  | _ => rw [Value.deep] <;> simp
/-- no value that's read is deeper than the document lets it be -/
theorem deep_both : ∀ f : Nat, (∀ deep p b v n, valueAt f deep p b = .ok (v, n) → deep + v.deep ≤ 65) ∧ (∀ deep named k prev p b m n, rowAt f deep named k prev p b = .ok (m, n) → m.deep = 0 ∨ deep + m.deep ≤ 64)
  | 0 => by
    refine ⟨fun deep p b v n h => ?_, fun deep named k prev p b m n h => ?_⟩
    · rw [val_zero] at h; cases h
    · rw [row_none] at h; cases h
  | f + 1 => by
    obtain ⟨ihv, ihr⟩ := deep_both f
    refine ⟨fun deep p b v n h => ?_, fun deep named k prev p b m n h => ?_⟩
    · cases b with
      | nil => rw [val_nil] at h; cases h
      | cons k r =>
        rw [val_cons] at h
        split at h
        · cases h
        rename_i g1
        split at h
        · cases h
        rename_i g3
        have g3' : deep ≤ 64 := by
          have : ¬ 64 < deep := g3
          omega
        split at h
        · rename_i g2
          split at h
          · cases h
          rename_i z l e1
          split at h
          · cases h
          rename_i m u e2
          injection h with h; obtain ⟨rfl, rfl⟩ := Prod.mk.inj h
          have q := ihr _ _ _ _ _ _ _ _ e2
          have e : (rowV k.toNat m).deep = m.deep + 1 := by
            unfold rowV
            split
            · rw [Value.deep]
            · rw [Value.deep]
          rw [e]
          omega
        · rename_i g2
          have kv := leaf_kind (k := k.toNat) (by omega) g2 h
          have e : v.deep = 1 := deep_leaf (by rw [kv]; omega) (by rw [kv]; omega)
          omega
    · cases k with
      | zero =>
        rw [row_zero] at h
        injection h with h; obtain ⟨rfl, rfl⟩ := Prod.mk.inj h
        exact .inl (by rw [Row.deep])
      | succ k =>
        rw [row_succ] at h
        split at h
        · cases h
        rename_i name l e0
        split at h
        · cases h
        rename_i v u e1
        split at h
        · cases h
        rename_i m' u' e2
        injection h with h; obtain ⟨rfl, rfl⟩ := Prod.mk.inj h
        have q1 := ihv _ _ _ _ _ e1
        have q2 := ihr _ _ _ _ _ _ _ _ e2
        right
        rw [Row.deep]
        omega
theorem decode_deep {b : Bytes} {v : Value} (h : decode b = .ok v) : v.deep ≤ 64 := by
  rw [decode_eq] at h
  cases e : vAt 1 0 b with
  | error x => rw [e] at h; cases h
  | ok q =>
    obtain ⟨u, n⟩ := q
    rw [e] at h
    dsimp only at h
    split at h
    · cases h
    · injection h with h
      subst h
      have q := (deep_both _).1 _ _ _ _ _ e
      omega
end Rd
end
section
set_option Elab.async false
set_option linter.all false
set_option maxRecDepth 100000
set_option maxHeartbeats 4000000
namespace Hs
open PySem PySem.Spec PyProof.Rows L2 Kt Nest
section
variable {P : Program} {w : World} {K : PySem.W.Frag} {mg : Str → Option Value} {base : Heap}
/-- the number of a row, behind a table -/
def NumQ (P : Program) (w : World) (K : PySem.W.Frag) (H : Hp) (k : Addr) (T : List Rw) (o : KO) (r : Rw) (Q : VK) : Prop :=
  ∀ H' T' o' (i : Nat), (T' = T ∨ T' = T ++ [r]) → T'[i]? = some r → KTab P w K H' k T' o' → o.sameAs o' → SameX [o.ra, o.na, o.ha] H H' → Q (.int (i : Int)) H'
theorem NumQ.at {H H1 : Hp} {k : Addr} {T : List Rw} {o : KO} {r : Rw} {Q : VK} (h : NumQ P w K H k T o r Q) (s : Same H H1) : NumQ P w K H1 k T o r Q := fun H' T' o' i h1 h2 h3 h4 h5 => h H' T' o' i h1 h2 h3 h4 ((SameX.of s).trans h5)
def spPlainOf (P : Program) (w : World) (K : PySem.W.Frag) : Sp := fun vs H Q _ => ∃ (k : Addr) (T : List Rw) (o : KO) (r : Rw), vs = [.ref k, .str (formS r)] ∧ KTab P w K H k T o ∧ r ∈ T7 ∧ T.length < 1000000 ∧ NumQ P w K H k T o r Q
theorem ok_plain (T0 : TKd K mg) : FnOk P w K mg base CX0 2 (ma K "Kinds" "plain") (fdA K (ma K "Kinds" "plain")) ["self", "word"] (spPlainOf P w K) := by
  have GN : FnOk P w K mg base CX0 1 (ma K "Kinds" "number_of") (fdA K (ma K "Kinds" "number_of")) ["self", "form", "names", "parts"] (spNum P w K) := ok_number_of T0
  have bN := b_Kinds_number_of T0.number_of.f
  refine T0.plain.f.ok sc_Kinds_plain (fun vs H Q E h => by obtain ⟨_, _, _, _, rfl, _⟩ := h; rfl) (fun cdv A outer s H vs Q E hr h => ⟨_, PSs.nox
    (pss_one (ps_ret (pe_meth (pv 0) T0.C.cl T0.number_of.me GN hr bN .nil pass0 (pa_cons (pv 1) (pa_cons (pe_tup pa_nil) (pa_cons (pe_tup pa_nil) pa_nil)))))), ?_⟩)
  obtain ⟨k, T, o, r, rfl, B, hr7, hT, kQ⟩ := h
  obtain ⟨r1, r2, r3, r4⟩ := T7_ok r hr7
  obtain ⟨⟨dk, hk⟩, _⟩ := id B
  refine ⟨_, rfl, k, dk, _, rfl, hk, o.l_number_of, _, rfl, nil_le, fun nA q1 => ⟨nil_le, fun pA q2 => ?_⟩⟩
  have s1 := same_upd (o := HO.tup []) q1
  have s2 := same_upd (o := HO.tup []) q2
  refine ⟨k, nA, pA, T, o, r, rfl, B.to (SameX.of (s1.trans s2)), by rw [r3]; exact s2 _ _ upd_same, by rw [r2]; exact upd_same, ⟨fun p hp => (by rw [r2] at hp; cases hp), fun ns ps e => absurd e (r4 ns ps)⟩, r1, hT, by rw [r2]; decide, kQ.at (s1.trans s2)⟩
def spListOf (P : Program) (w : World) (K : PySem.W.Frag) : Sp := fun vs H Q _ => ∃ (k : Addr) (T : List Rw) (o : KO) (p : Nat), vs = [.ref k, .int (p : Int)] ∧ KTab P w K H k T o ∧ p < T.length ∧ T.length < 1000000 ∧ NumQ P w K H k T o (.list p) Q
theorem ok_list_of (T0 : TKd K mg) : FnOk P w K mg base CX0 2 (ma K "Kinds" "list_of") (fdA K (ma K "Kinds" "list_of")) ["self", "member"] (spListOf P w K) := by
  have GN : FnOk P w K mg base CX0 1 (ma K "Kinds" "number_of") (fdA K (ma K "Kinds" "number_of")) ["self", "form", "names", "parts"] (spNum P w K) := ok_number_of T0
  have bN := b_Kinds_number_of T0.number_of.f
  refine T0.list_of.f.ok sc_Kinds_list_of (fun vs H Q E h => by obtain ⟨_, _, _, _, rfl, _⟩ := h; rfl) (fun cdv A outer s H vs Q E hr h => ⟨_, PSs.nox
    (pss_one (ps_ret (pe_meth (pv 0) T0.C.cl T0.number_of.me GN hr bN .nil pass0 (pa_cons pe_str (pa_cons (pe_tup pa_nil) (pa_cons (pe_tup (pa_cons (pv 1) pa_nil)) pa_nil)))))), ?_⟩)
  obtain ⟨k, T, o, p, rfl, B, hp, hT, kQ⟩ := h
  obtain ⟨⟨dk, hk⟩, _⟩ := id B
  refine ⟨_, rfl, k, dk, _, rfl, hk, o.l_number_of, nil_le, fun nA q1 => ⟨_, rfl, (by show 1 ≤ sizeLine; rw [sizeLine_eq]; decide), fun pA q2 => ?_⟩⟩
  have s1 := same_upd (o := HO.tup []) q1
  have s2 := same_upd (o := HO.tup [V.int (p : Int)]) q2
  refine ⟨k, nA, pA, T, o, .list p, rfl, B.to (SameX.of (s1.trans s2)), s2 _ _ upd_same, upd_same, ⟨fun x hx => (by
    have : x = p := by simpa [Rw.parts] using hx
    rw [this]; exact hp), fun ns ps e => by cases e⟩, trivial, hT, by show 1 < _; decide, kQ.at (s1.trans s2)⟩
def spRecordOf (P : Program) (w : World) (K : PySem.W.Frag) : Sp := fun vs H Q _ => ∃ (k nA pA : Addr) (T : List Rw) (o : KO) (ns : List Sw.Bytes) (ps : List Nat), vs = [.ref k, .ref nA, .ref pA] ∧ KTab P w K H k T o ∧ SqL K H nA ((ns.map spell).map V.str) ∧ SqL K H pA (ps.map fun (p : Nat) => V.int ((p : Nat) : Int)) ∧ ns.length = ps.length ∧ (∀ p ∈ ps, p < T.length) ∧ T.length < 1000000 ∧ ps.length < 1000000 ∧
  NumQ P w K H k T o (.record ns ps) Q
theorem ok_record_of (T0 : TKd K mg) : FnOk P w K mg base CX0 2 (ma K "Kinds" "record_of") (fdA K (ma K "Kinds" "record_of")) ["self", "names", "parts"] (spRecordOf P w K) := by
  have GN : FnOk P w K mg base CX0 1 (ma K "Kinds" "number_of") (fdA K (ma K "Kinds" "number_of")) ["self", "form", "names", "parts"] (spNum P w K) := ok_number_of T0
  have bN := b_Kinds_number_of T0.number_of.f
  refine T0.record_of.f.ok sc_Kinds_record_of (fun vs H Q E h => by obtain ⟨_, _, _, _, _, _, _, rfl, _⟩ := h; rfl) (fun cdv A outer s H vs Q E hr h => ⟨_, PSs.nox
    (pss_one (ps_ret (pe_meth (pv 0) T0.C.cl T0.number_of.me GN hr bN .nil pass0 (pa_cons pe_str (pa_cons (pe_tupleOf (by rfl) T0.tuple (pv 1)) (pa_cons (pe_tupleOf (by rfl) T0.tuple (pv 2)) pa_nil)))))), ?_⟩)
  obtain ⟨k, nA, pA, T, o, ns, ps, rfl, B, hn, hp, hl, hlt, hT, hP, kQ⟩ := h
  obtain ⟨⟨dk, hk⟩, _⟩ := id B
  dsimp only [cxOf, Cx.nox]
  refine ⟨_, rfl, k, dk, _, rfl, hk, o.l_number_of, _, rfl, .inl ⟨nA, _, rfl, hn, fun nB q1 => ⟨_, rfl, .inl ⟨pA, _, rfl, (same_upd q1).seq hp, fun pB q2 => ?_⟩⟩⟩⟩
  have s1 := same_upd (o := HO.tup ((ns.map spell).map V.str)) q1
  have s2 := same_upd (o := HO.tup (ps.map fun (p : Nat) => V.int ((p : Nat) : Int))) q2
  refine ⟨k, nB, pB, T, o, .record ns ps, rfl, B.to (SameX.of (s1.trans s2)), s2 _ _ upd_same, upd_same, ⟨fun x hx => hlt x (by simpa [Rw.parts] using hx), fun as bs e => by injection e with e1 e2; rw [← e1, ← e2]; exact hl⟩, trivial, hT, hP, kQ.at (s1.trans s2)⟩
end
end Hs
end
section
set_option Elab.async false
set_option linter.all false
set_option maxRecDepth 100000
set_option maxHeartbeats 2000000
namespace Hs
open PySem PySem.Spec PyProof.Rows L2 Kt Nest Tl
/-- the bytes of a plain kind's word -/
def wordOf : Rw → Sw.Bytes
  | .plain k => War.nth War.plainWords k
  | _ => Sw.ascii "nothing"
def plainOf : Rw → War.K
  | .plain k => .plain k
  | _ => .nothing
theorem form_spell : ∀ r ∈ T7, formS r = spell (wordOf r) := by decide +kernel
theorem told_word : ∀ r ∈ T7, (if wordOf r = Sw.ascii "nothing" then some War.K.nothing else (War.plainWords.findIdx? fun (x : Sw.Bytes) => x == wordOf r).map War.K.plain) = some (plainOf r) := by
  intro r hr
  simp only [T7, List.mem_cons, List.not_mem_nil, or_false] at hr
  rcases hr with e | e | e | e | e | e | e <;> subst e <;> kernel_rfl
theorem told_text (t : List Nat) : War.toldKind (.text t) = if Sw.utf8 t = Sw.ascii "nothing" then some .nothing else (War.plainWords.findIdx? fun (x : Sw.Bytes) => x == Sw.utf8 t).map War.K.plain := by rw [War.toldKind]
/-- a told text is a plain kind's word, or no kind -/
theorem text_told (t : List Nat) : (∃ r ∈ T7, spell (Sw.utf8 t) = formS r ∧ War.toldKind (.text t) = some (plainOf r)) ∨ ((T7.map formS).contains (spell (Sw.utf8 t)) = false ∧ War.toldKind (.text t) = none) := by
  cases h : War.toldKind (.text t) with
  | some k =>
    left
    rw [told_text] at h
    by_cases e : Sw.utf8 t = Sw.ascii "nothing"
    · rw [if_pos e] at h
      injection h with h
      refine ⟨.nothing, by decide, ?_, ?_⟩
      · rw [e]; decide +kernel
      · rw [← h]; rfl
    · rw [if_neg e] at h
      obtain ⟨i, hi, e2, e3⟩ := plain_some h
      have hm : Rw.plain i ∈ T7 := by
        have : ∀ i : Fin 6, Rw.plain i.val ∈ T7 := by decide
        exact this ⟨i, hi⟩
      refine ⟨.plain i, hm, ?_, by rw [e2]; rfl⟩
      rw [form_spell _ hm, ← e3]
      rfl
  | none =>
    right
    refine ⟨?_, rfl⟩
    cases hc : (T7.map formS).contains (spell (Sw.utf8 t)) with
    | false => rfl
    | true =>
      rw [List.contains_iff_mem] at hc
      obtain ⟨r, hr, e⟩ := List.mem_map.mp hc
      rw [form_spell r hr] at e
      have e2 := spell_inj e
      have q := told_word r hr
      rw [e2, ← told_text, h] at q
      cases q
end Hs
end
section
set_option Elab.async false
set_option linter.all false
set_option maxRecDepth 100000
set_option maxHeartbeats 2000000
namespace Hs
open PySem PySem.Spec PyProof.Rows L2 Kt Nest Tl
theorem eqv_all_strs : ∀ xs ys : List Str, PyData.eqvAll (xs.map PyData.str) (ys.map PyData.str) = decide (xs = ys)
  | [], [] => by simp [PyData.eqvAll]
  | [], _ :: _ => by simp [PyData.eqvAll]
  | _ :: _, [] => by simp [PyData.eqvAll]
  | x :: xs, y :: ys => by
    have ih := eqv_all_strs xs ys
    rw [List.map_cons, List.map_cons, PyData.eqvAll, ih]
    have : PyData.eqv (.str x) (.str y) = decide (x = y) := by
      rw [PyData.eqv, Bool.beq_eq_decide_eq]
    rw [this]
    by_cases e : x = y
    · subst e; simp
    · simp [e]
theorem dec_spells (a b : List Sw.Bytes) : decide (a.map spell = b.map spell) = decide (a = b) := by
  by_cases e : a = b
  · rw [e, decide_eq_true rfl, decide_eq_true rfl]
  · rw [decide_eq_false e, decide_eq_false fun z => e (spells_inj z)]
theorem shaped_list (l : List Sw.Bytes) : SeqAt.shaped (.list ((l.map spell).map PyData.str)) = true := by
  have h1 : ∀ l : List Sw.Bytes, PyData.canLayAll0 ((l.map spell).map PyData.str) = true := fun l => by
    induction l with
    | nil => rfl
    | cons x l ih =>
      show (PyData.canLay0 (.str (spell x)) && PyData.canLayAll0 ((l.map spell).map PyData.str)) = true
      rw [ih, Bool.and_true]
      exact spell_ok x
  have h2 : ∀ l : List Sw.Bytes, PyData.depthAll ((l.map spell).map PyData.str) = 0 := fun l => by
    induction l with
    | nil => rfl
    | cons x l ih =>
      show max 0 (PyData.depthAll ((l.map spell).map PyData.str)) = 0
      rw [ih]; rfl
  unfold SeqAt.shaped
  rw [Bool.and_eq_true]
  refine ⟨h1 l, decide_eq_true ?_⟩
  show PyData.depthAll ((l.map spell).map PyData.str) + 1 ≤ 64
  rw [h2]
  decide
/-- two lists of spelled names, one == the other -/
theorem rd_names {K : PySem.W.Frag} {H : Hp} {x y : Addr} {a b : List Sw.Bytes} {Q : VK} (hx : SqL K H x ((a.map spell).map V.str)) (hy : SqL K H y ((b.map spell).map V.str)) (q : Q (.bl (decide (a = b))) H) : rEqD K (.ref x) (.ref y) H Q := by
  refine ⟨.list ((a.map spell).map PyData.str), .list ((b.map spell).map PyData.str), .lst hx (dp_strs _), .lst hy (dp_strs _), shaped_list _, shaped_list _, ?_⟩
  rw [PyData.eqv, eqv_all_strs, dec_spells]
  exact q
theorem w_list : (["list"] : List Str) = [Sw.word "list"].map spell := by decide +kernel
theorem w_record : (["record"] : List Str) = [Sw.word "record"].map spell := by decide +kernel
theorem w_in_sort : (["in", "sort"] : List Str) = [Sw.word "in", Sw.word "sort"].map spell := by decide +kernel
end Hs
end
section
set_option Elab.async false
set_option linter.all false
set_option maxRecDepth 100000
set_option maxHeartbeats 2000000
namespace Hs
open PySem PySem.Spec PyProof.Rows L2 Kt Nest Tl
/-- what stands for a value's told kind -/
def ResOk (T : List Rw) (v : Sw.Value) (r : V) : Prop := (War.toldKind v = none → r = V.non) ∧ ∀ kd, War.toldKind v = some kd → ∃ i : Nat, r = V.int (i : Int) ∧ i < T.length ∧ kAt T i = kd
theorem ResOk.ext {T T' : List Rw} (e : ExtT T T') {v : Sw.Value} {r : V} (h : ResOk T v r) : ResOk T' v r := ⟨h.1, fun kd z => by
  obtain ⟨i, e1, e2, e3⟩ := h.2 kd z
  exact ⟨i, e1, Nat.lt_of_lt_of_le e2 e.len, by rw [e.kAt e2, e3]⟩⟩
theorem all2_ext {T T' : List Rw} (e : ExtT T T') {l : List Sw.Value} {rs : List V} (h : All2 (ResOk T) l rs) : All2 (ResOk T') l rs := by
  induction h with
  | nil => exact .nil
  | cons h t ih => exact .cons (h.ext e) ih
theorem inV_non_cons (r : V) (rs : List V) : inV .non (r :: rs) = (eqV r .non || inV .non rs) := rfl
/-- the members' told kinds make a row, or one of them is none -/
theorem row_res {T : List Rw} : ∀ (m : Sw.Row) {rs : List V}, All2 (ResOk T) m.values rs → rs.all flatV = true ∧
    ((inV .non rs = true ∧ War.toldRow m = none) ∨ ∃ ps : List Nat, rs = ps.map (fun (p : Nat) => V.int ((p : Nat) : Int)) ∧ (∀ p ∈ ps, p < T.length) ∧ inV .non rs = false ∧ War.toldRow m = some (rowOf m.names (ps.map (kAt T))) ∧ m.names.length = ps.length)
  | .nil, rs, h => by
    have h' : All2 (ResOk T) [] rs := h
    cases h'
    exact ⟨rfl, .inr ⟨[], rfl, (fun p hp => by cases hp), rfl, by rw [War.toldRow]; rfl, rfl⟩⟩
  | .cons n v m, rs, h => by
    have h' : All2 (ResOk T) (v :: m.values) rs := h
    cases h' with
    | cons q t =>
      rename_i r rs
      obtain ⟨f, ih⟩ := row_res m t
      have er : War.toldRow (.cons n v m) = match War.toldKind v with
        | none => none
        | some k => (War.toldRow m).map fun (l : War.KRow) => .cons n k l := by rw [War.toldRow.eq_def]; rfl
      cases hv : War.toldKind v with
      | none =>
        have := q.1 hv
        subst this
        refine ⟨by rw [List.all_cons, f]; rfl, .inl ⟨by rw [inV_non_cons]; rfl, by rw [er, hv]⟩⟩
      | some kd =>
        obtain ⟨i, e1, e2, e3⟩ := q.2 kd hv
        subst e1
        refine ⟨by rw [List.all_cons, f]; rfl, ?_⟩
        rcases ih with ⟨a1, a2⟩ | ⟨ps, a1, a2, a3, a4, a5⟩
        · exact .inl ⟨by rw [inV_non_cons, a1]; rfl, by rw [er, hv, a2]; rfl⟩
        · refine .inr ⟨i :: ps, by rw [a1]; rfl, fun p hp => ?_, by rw [inV_non_cons, a3]; rfl, ?_, ?_⟩
          · rcases List.mem_cons.mp hp with z | z
            · rw [z]; exact e2
            · exact a2 p z
          · rw [er, hv, a4, ← e3]
            rfl
          · show m.names.length + 1 = ps.length + 1
            rw [a5]
end Hs
end
section
set_option Elab.async false
set_option linter.all false
set_option maxRecDepth 100000
set_option maxHeartbeats 4000000
/-! A list comprehension whose element's call lets an own error out. Written for spec 167, after the hand layer's rule for one that raises nothing. -/
namespace L2
open PySem PySem.Spec PyProof.Rows PySem.HandSPX
section
variable {X : Cx} {W : WX}
theorem tracedZ_base {h B B' : Heap} {a : Addr} {Z : Obj → Prop} {fl : Value} (hb : ∀ b o, B'.get? b = some o → B.get? b = some o) (t : TracedZ h B a Z fl) : TracedZ h B' a Z fl := by
  obtain ⟨oe, vs, T, oT, ts, e1, e2, e3, e4, e5, r⟩ := t
  refine ⟨oe, vs, T, oT, ts, e1, e2, e3, e4, ?_, r⟩
  cases q : B'.get? T with
  | none => rfl
  | some o => rw [hb _ _ q] at e5; cases e5
theorem tracedZ_but {h h' B : Heap} {a C : Addr} {Z : Obj → Prop} {fl : Value} {m : Str → Option Value} (hn : h.Ns C m) (hs : Heap.SameBut C h h') (t : TracedZ h B a Z fl) : TracedZ h' B a Z fl := by
  obtain ⟨oe, vs, T, oT, ts, e1, e2, e3, e4, e5, e6, e7, e8, e9⟩ := t
  obtain ⟨oL, es, ep, g1, g2, _⟩ := hn
  have n1 : a ≠ C := fun z => by
    rw [z, g1] at e1; injection e1 with e1
    rw [e1, e3] at g2; cases g2
  have n2 : T ≠ C := fun z => by
    rw [z, g1] at e7; injection e7 with e7
    rw [e7, e8] at g2; cases g2
  exact ⟨oe, vs, T, oT, ts, (hs.2 a n1).trans e1, e2, e3, e4, e5, e6, (hs.2 T n2).trans e7, e8, e9⟩
/-- what a call in the block lets out is noted, the block's names go, and it is in the def's own air -/
theorem air_out {pins : List (Addr × Obj)} {σ : St} {H : Hp} {s sn : Shared} {u : Value} {E : XK} {ce : Env} {m : Str → Option Value} (hst : X.stack = X.env :: X.outer) (frl : X.env.frame = some X.env.locals) (cfr : ce.frame = X.env.frame) (tk : Takes X W)
    (I : Inv X pins σ H s) (hm : s.heap.Ns ce.locals m) (hC : H ce.locals = none) (fC : FpOk X pins H ce.locals) (hW : ∀ c d Hn, E c d Hn → W c d σ Hn) (c : CX X.prog X.w X.stack H s E u sn) :
    notedBy (model X.prog X.w) X.A ce (CompFails (model X.prog X.w) X.A X.xe ce) u sn := by
  obtain ⟨a, B, Hn, cls, d, rfl, fl, hok, un, na, hos, ag, hE⟩ := c
  obtain ⟨f0, f1, f2, f3, f4, f5⟩ := fC
  obtain ⟨oC, es, ep, gC, dC, rC⟩ := id hm
  have nCs : ce.locals ∉ frs X.stack := fun z => by
    rw [hst] at z
    rcases List.mem_cons.mp (show ce.locals ∈ X.env.locals :: frs X.outer by
      have z' : ce.locals ∈ List.filterMap (·.frame) (X.env :: X.outer) := z
      rw [List.filterMap_cons, frl] at z'
      exact z') with q | q
    · exact f1 q
    · exact f2 q
  have hC' : Hn ce.locals = none := un.free _ _ gC hC
  have bC : B.get? ce.locals = some oC := un.keep _ _ gC hC nCs
  have st : B.StaysIn sn.heap := fl.1
  have mC : sn.heap.Ns ce.locals m := ⟨oC, es, ep, st _ _ bC, dC, rC⟩
  obtain ⟨B3, hB3⟩ : ∃ B3, B3 = PySem.W.hideAll B [ce.locals] := ⟨_, rfl⟩
  have b3 : ∀ b o, B3.get? b = some o → B.get? b = some o := fun b o e => by rw [hB3] at e; exact PySem.W.of_hideAll _ e
  have b4 : ∀ b o, b ≠ ce.locals → B.get? b = some o → B3.get? b = some o := fun b o n e => by rw [hB3]; exact PySem.W.hideAll_get _ e (by simpa using n)
  have b5 : B3.get? ce.locals = none := by rw [hB3]; exact PySem.W.hideAll_none _ (by simp)
  have none3 : ∀ b, B.get? b = none → B3.get? b = none := fun b e => by
    cases q : B3.get? b with
    | none => rfl
    | some o => rw [b3 _ _ q] at e; cases e
  have fl3 : FlyingZ B3 X.stack a (Zc cls d) sn.heap := by
    obtain ⟨k1, k2, k3, k4⟩ := fl
    refine ⟨fun b o e => k1 b o (b3 b o e), none3 _ k2, funFrames_none k3 fun L hL => none3 _ ?_, tracedZ_base b3 k4⟩
    exact (Heap.FunFrames.mem k3 hL).1
  obtain ⟨G, g1, g2⟩ := restrict sn.heap fun b => (B3.get? b).isSome || decide (b ∈ frs X.stack)
  have gB : ∀ b o, B3.get? b = some o → G.get? b = some o := fun b o e => (g1 b (by simp [e])).trans (fl3.1 b o e)
  have frm : ∀ b, b ∈ frs X.stack → G.get? b = sn.heap.get? b := fun b hb => g1 b (by simp [hb])
  have og : ∀ b o, G.get? b = some o → sn.heap.get? b = some o ∧ (b ∉ frs X.stack → B3.get? b = some o) := fun b o e => by
    cases q : ((B3.get? b).isSome || decide (b ∈ frs X.stack)) with
    | false =>
      rw [g2 b q] at e
      cases e
    | true =>
      have e' : sn.heap.get? b = some o := (g1 b q).symm.trans e
      refine ⟨e', fun hb => ?_⟩
      have q' : (B3.get? b).isSome = true := by simpa [hb] using q
      obtain ⟨o', q2⟩ := Option.isSome_iff_exists.mp q'
      have z := fl3.1 b o' q2
      rw [e'] at z; cases z
      exact q2
  have gC0 : G.get? ce.locals = none := by
    cases q : G.get? ce.locals with
    | none => rfl
    | some o =>
      have z := (og _ _ q).2 nCs
      rw [b5] at z; cases z
  have hokG : HOk X.prog X.w Hn G := fun b o q => (hok b o q).stay (fun c v hc r => gB c v (b4 c v (fun z => by
    rcases hc with hc | hc
    · rw [← hc, z, hC'] at q; cases q
    · rw [z, hC'] at hc; cases hc) r)) (fun _ r => r) fun _ _ r => r
  have J : Inv X pins σ Hn { s with heap := G, gens := sn.gens, drawn := sn.drawn, toks := sn.toks } := by
    refine I.call (ch := [ce.locals]) ⟨fun b o e n hb hc => gB b o (b4 b o (by simpa using hc) (un.keep b o e n hb)), fun b o e n hb hc => ?_, fun b o e n hc => un.free b o e n, fun b o e hc => ?_, un.tups, un.frzs, un.tbls⟩ hokG ag (fun b hb => ?_)
    · obtain ⟨sl, q⟩ := un.slot b o e hb
      exact ⟨sl, (frm b hb).trans q⟩
    · by_cases hb : (b ∈ frs X.stack)
      · obtain ⟨sl, q⟩ := un.slot b o e hb
        exact ⟨_, (frm b hb).trans q⟩
      · obtain ⟨o', q⟩ := un.there b o e hb
        exact ⟨o', gB b o' (b4 b o' (by simpa using hc) q)⟩
    · have z : b = ce.locals := by simpa using hb
      rw [z]
      exact ⟨f3, f1, f4, f5⟩
  show wpAny _ X.A (noteFrame (.ref a) ce) _ _ _
  rw [noteFrame_env _ cfr]
  have frA : X.A.frames = some (X.env :: X.outer) := by rw [I.ok.frames, hst]
  rw [hst] at fl3
  refine looks_onZ Zc.steady frA frl fl3 fun h1 hh1 up1 => ?_
  refine ⟨m, mC.upToSlots up1, fun h2 m2 n2 sb => ?_⟩
  have nC1 := mC.upToSlots up1
  obtain ⟨k1, k2, k3, k4⟩ := hh1
  have at2 : B3.StaysIn h2 := fun b o e => (sb.2 b fun z => by rw [z, b5] at e; cases e).trans (k1 b o e)
  have ff2 : h2.FunFrames B3 (X.env :: X.outer) := Heap.FunFrames.sameBut sb n2 k3
  have t2 := tracedZ_but nC1 sb k4
  obtain ⟨oe, vs, T, oT, ts, e1, e2, e3, e4, e5⟩ := id t2
  unfold PySem.passOn
  refine wpAny_bind (wpAny_field e1 e3 e4 ?_)
  rw [if_neg (show ¬ ((Value.ref T == .none) = true) from by simp)]
  have fin : wpAny (model X.prog X.w) X.A (setFlight (.ref a) ce.frame) (fun _ s4 => wpAny (model X.prog X.w) X.A (throw (.ref a) : Sem Value) (fun _ _ => False) X.xe s4) X.xe { sn with heap := h2 } := by
    rw [cfr, frl]
    refine setFlight_anyZ at2 ff2 t2 fun h3 l1 l2 l3 up3 => wpAny_throw (tk _ _ ?_)
    refine ⟨a, B3, _, pins, σ, Hn, cls, d, rfl, J, fun b o e hb => (og b o e).2 hb, fun b o e hn => ?_, .inr (.inr ⟨l1, k2, by rw [hst]; exact l2, l3⟩), na, hos, ag, hW _ _ _ hE⟩
    have nb : b ≠ ce.locals := fun z => by
      have e' : G.get? b = some o := e
      rw [z, gC0] at e'; cases e'
    obtain ⟨sl, q1⟩ := up1 b o (og b o e).1 hn
    obtain ⟨sl2, q2⟩ := up3 b _ ((sb.2 b nb).trans q1) hn
    exact ⟨sl2, q2⟩
  first
    | exact wpAny_bind (wpAny_pure (wpAny_bind (by exact fin)))
    | exact wpAny_bind fin
/-- [f(..) for target in iter if ..], where f lets errors out; te by the wish about them -/
def tLcX (wi : TI) (g : TG) (tt : TT) (te : WX → TE) (W : WX) (vs : List Nat) : TE := fun σ H Q => tLc wi g tt (te fun c d _ Hn => W c d σ Hn) vs σ H Q
/-- the block's promise: whatever is wished of what its calls let out -/
def ElX (X : Cx) (scope : Scope) (elt : Expr) (te : WX → TE) : Prop := ∀ (s : Shared) (H : Hp) (C : Addr) (cl : List (Str × Addr)) (fp : List Addr) (xe : Value → Shared → Prop) (W : WX),
  (∀ σ, PassesAt (L2.CX X.prog X.w) ((X.blk s H scope (compEnvC scope cl C X.env) fp).wish xe) σ (WE W σ)) → PE ((X.blk s H scope (compEnvC scope cl C X.env) fp).wish xe) elt (te W)
theorem lc_coreX {pins : List (Addr × Obj)} {s : Shared} {σ : St} {H : Hp} {Q : VK} {elt tg iter : Expr} {ifs : List Expr} {scope : Scope} {own : List (Str × Nat)} {pos pos' : Pos} {wi : TI} {g : TG} {tt : TT}
    {te : WX → TE} {use : Option (Value → Sem Unit)} {Qf : Value → Shared → Prop} (hc : X.calm = true) (hN : X.N.Nodup) (hst : X.stack = X.env :: X.outer) (frl : X.env.frame = some X.env.locals) (tk : Takes X W)
    (I : Inv X pins σ H s) (hi : PI X tg iter wi) (bo : BlkOk X.N X.env.scope scope own)
    (hg : ∀ (s : Shared) (H : Hp) (C : Addr) (cl : List (Str × Addr)) (fp : List Addr), PG (X.blk s H scope (compEnvC scope cl C X.env) fp) tg g)
    (ht : ∀ (s : Shared) (H : Hp) (C : Addr) (cl : List (Str × Addr)) (fp : List Addr), PTs (X.blk s H scope (compEnvC scope cl C X.env) fp) ifs tt)
    (he : ElX X scope elt te) (hs : ∀ x, foldedSetIterable iter X.env x = pure x) (h : tLcX wi g tt te W (own.map (·.2)) σ H Q)
    (done : ∀ D C sn m Hn, Inv X pins σ Hn sn → Q (.ref D) Hn → sn.heap.Ns C m → FpOk X pins Hn C → compPost (model X.prog X.w) X.A X.xe use Qf (.ref D) C (.ok .next) sn) :
    wpAny (model X.prog X.w) X.A (comprehension (.ListComp elt [⟨tg, iter, ifs, 0⟩] scope pos) scope X.env pos' (newList []) false (eval iter X.env) use)
      Qf X.xe s := by
  have free : ∀ y ∈ scope.names, y.2 = .free → ∃ c, X.env.cells.lookup y.1 = some c := fun y hy e => I.ok.has _ (bo.free y hy e)
  refine comprehension_at (use := use) rfl hs (closure_ok free) bo.kind (fun y hy e => by rw [bo.uniq y hy, e]) ?_
  refine thn (hi.run pins s σ H _ I h) fun xv s1 hx => thn hx fun itv s2 h2 => ?_
  obtain ⟨it, fp, tn, J, H2, rfl, I2, T, at2, f2, q⟩ := h2
  refine wpAny_newObj_type (newEnv_comp ?_) (Nat.zero_le _)
  obtain ⟨D, hD⟩ : ∃ D, D = s2.heap.objs.size := ⟨_, rfl⟩
  rw [← hD]
  have hDn : H2 D = none := I2.hok.fresh (Nat.le_of_eq hD.symm)
  obtain ⟨Wn, ⟨m0, w0⟩, turn⟩ := q D hDn
  obtain ⟨s3, hs3⟩ : ∃ s3 : Shared, s3 = { s2 with heap := s2.heap.push { cls := .type "list", data := .seq ([] : List Value).toArray } } := ⟨_, rfl⟩
  have hp3 : s3.heap = s2.heap.push { cls := .type "list", data := .seq ([] : List Value).toArray } := by rw [hs3]
  obtain ⟨H3, hH3⟩ : ∃ H3 : Hp, H3 = upd H2 D (.lst []) := ⟨_, rfl⟩
  have I3 : Inv X pins σ H3 s3 := by
    rw [hs3, hH3]
    refine I2.laid (t' := s2.toks) (fun b o e => Heap.get?_push_of_some _ e) (Nat.le_of_eq hD.symm) ⟨Nat.zero_le _, [], 0, .nil, ?_⟩
    rw [hD]
    refine Heap.get?_push_size _ ?_
    rfl
  have lt2 : ∀ b ∈ fp, b < s2.heap.objs.size := fun b hb => by
    obtain ⟨o, e, _⟩ := T.obj _ _ at2 b hb
    exact Heap.lt_size e
  have f3 : ∀ b ∈ fp, FpOk X pins H3 b ∧ b < s3.heap.objs.size := fun b hb => by
    have hlt := lt2 b hb
    refine ⟨⟨?_, (f2 b hb).2⟩, by rw [hp3, Heap.size_push]; exact Nat.lt_succ_of_lt hlt⟩
    rw [hH3, upd_ne (by rw [hD]; exact Nat.ne_of_lt hlt)]
    exact (f2 b hb).1
  have st3 : tn 0 s3.heap := T.keep _ _ _ at2 fun b _ o e => by rw [hp3]; exact Heap.get?_push_of_some _ e
  have J4 := block_start I3 bo hN f3
  obtain ⟨C, hCz⟩ : ∃ C, C = s3.heap.objs.size := ⟨_, rfl⟩
  obtain ⟨cl, hcl⟩ : ∃ cl, cl = cellsFrom (s3.heap.objs.size + 1) scope.names (cloFrom X.env.cells scope.names []) := ⟨_, rfl⟩
  rw [← hs3]
  show codeAny _ _ (.compStart (.ListComp elt [⟨tg, iter, ifs, 0⟩] scope pos) 0 (.ref it) (.ref D) (compEnvC scope (cellsFrom (s3.heap.objs.size + 1) scope.names (cloFrom X.env.cells scope.names [])) s3.heap.objs.size X.env))
    (compEnds (model X.prog X.w) X.A X.xe use Qf (.ref D) (compEnvC scope (cellsFrom (s3.heap.objs.size + 1) scope.names (cloFrom X.env.cells scope.names [])) s3.heap.objs.size X.env))
    { s3 with heap := pushCells (s3.heap.push { cls := .type "dict", data := .dict #[] }) scope.names }
  have pg := hg s3 H3 C cl fp
  have pt := ht s3 H3 C cl fp
  have pe := he s3 H3 C cl fp
  rw [← hcl, ← hCz] at J4
  rw [← hcl, ← hCz]
  obtain ⟨ce, hce⟩ : ∃ ce, ce = compEnvC scope cl C X.env := ⟨_, rfl⟩
  have cL : ce.locals = C := by rw [hce]; rfl
  have cF : ce.frame = X.env.frame := by rw [hce]; rfl
  rw [← hce] at J4 pg pt pe ⊢
  obtain ⟨s4, hs4⟩ : ∃ s4 : Shared, s4 = { s3 with heap := pushCells (s3.heap.push { cls := .type "dict", data := .dict #[] }) scope.names } := ⟨_, rfl⟩
  rw [← hs4] at J4 ⊢
  have at4 : tn 0 s4.heap := T.keep _ _ _ st3 fun b _ o e => by rw [hs4]; exact pushCells_keeps _ _ _ _ (Heap.get?_push_of_some _ e)
  have nfp : ∀ b ∈ fp, H3 b = none := fun b hb => (f3 b hb).1.1
  rw [← hH3] at w0
  -- a state of the block is one of the def's
  have back : ∀ {xe : Value → Shared → Prop} {pins' : List (Addr × Obj)} {σ' : St} {Hn : Hp} {sn : Shared}, Inv ((X.blk s3 H3 scope ce fp).wish xe) pins' σ' Hn sn → Inv X pins σ Hn sn ∧ (∃ m, sn.heap.Ns ce.locals m) ∧ FpOk X pins Hn ce.locals := fun {xe pins' σ' Hn sn} J => by
    refine ⟨I3.call' (ch := fp) J.os J.base J.hok J.bare fun b hb => ⟨(f3 b hb).1.2.2.2.1, (f3 b hb).1.2.1, (f3 b hb).1.2.2.2.2.1, (f3 b hb).1.2.2.2.2.2⟩, ?_, ?_⟩
    · obtain ⟨m, hn, _⟩ := J.loc
      exact ⟨m, hn⟩
    · have z : Hn ce.locals = none := J.free
      rw [cL] at z ⊢
      exact I3.fpOk (Nat.le_of_eq hCz.symm) z
  have stay : ∀ {σ' : St} {Hn : Hp} {sn : Shared}, Inv (X.blk s3 H3 scope ce fp) [] σ' Hn sn → (∀ b ∈ fp, Hn b = none) → ∀ b ∈ fp, FpOk (X.blk s3 H3 scope ce fp) [] Hn b := fun {σ' Hn sn} J hn b hb =>
    ⟨hn b hb, (J.ok.exf b hb).1, J.ok.exfs b hb, .inl hb, fun x c e => (J.ok.exf b hb).2 x c e, fun p hp => absurd (show p ∈ ([] : List (Addr × Obj)) ++ [] from hp) (by simp)⟩
  have turns : codeAny (model X.prog X.w) X.A (.compLoop (.ListComp elt [⟨tg, iter, ifs, 0⟩] scope pos) 0 (.ref it) (.ref D) ce) (compEnds (model X.prog X.w) X.A X.xe use Qf (.ref D) ce) s4 := by
    refine compLoop_any (fun n sn => ∃ i Hn, Inv (X.blk s3 H3 scope ce fp) [] (wipe σ (own.map (·.2))) Hn sn ∧ tn i sn.heap ∧ (∀ b ∈ fp, Hn b = none) ∧ Wn i n Hn) (fun n s5 hI => ?_) m0 ⟨0, H3, J4, at4, nfp, w0⟩
    obtain ⟨i, H5, I5, at5, n5, w5⟩ := hI
    rcases turn i n H5 w5 with ⟨hstop, qq⟩ | ⟨go, Nx, hNx, step⟩
    · refine thnF (T.done (X.blk s3 H3 scope ce fp) rfl rfl rfl hc i [] s5 _ H5 (fun _ _ => False) I5 (stay I5 n5) at5 hstop) fun r s6 ⟨hr, I6⟩ => ?_
      subst hr
      obtain ⟨I7, ⟨m, hn⟩, fC⟩ := back (I6.wish fun _ _ => False)
      have fin := done D ce.locals s6 m H5 I7 qq hn fC
      show compEnds (model X.prog X.w) X.A X.xe use Qf (.ref D) ce (.ok .next) s6
      cases use <;> exact fin
    · refine thnF (T.item (X.blk s3 H3 scope ce fp) rfl rfl rfl hc i [] s5 _ H5 (fun _ _ => False) I5 (stay I5 n5) at5 go) fun r s6 ⟨u, hr, g6⟩ => ?_
      subst hr
      refine thnF g6 fun _ s7 ⟨x, H7, I7, r7, y7, at7, n7⟩ => ?_
      refine thnF (pg.run _ s7 _ H7 x u _ (I7.pinned (stay I7 n7) (T.obj _ _ at7)) r7 (step x H7 y7)) fun _ sy ⟨σy, H8, J8, hw8, q8⟩ => ?_
      refine thnF (pt.run _ sy σy H8 _ J8 q8) fun b s9 ⟨H9, J9, q9⟩ => ?_
      have fin : ∀ {sn : Shared} {Hn : Hp}, Inv (X.blk s3 H3 scope ce fp) ([] ++ pinsAt fp s7.heap) σy Hn sn → Nx Hn →
          ∃ m, m < n ∧ ∃ i Hn, Inv (X.blk s3 H3 scope ce fp) [] (wipe σ (own.map (·.2))) Hn sn ∧ tn i sn.heap ∧ (∀ b ∈ fp, Hn b = none) ∧ Wn i m Hn := fun {sn Hn} J nxt => by
        obtain ⟨mm, hm, wn⟩ := hNx Hn nxt
        have pin' : ∀ b ∈ fp, ∀ o, s7.heap.get? b = some o → sn.heap.get? b = some o ∧ Hn b = none := fun b hb o e => by
          have z := J.pin (b, o) (List.mem_append_right _ (List.mem_append_right _ (mem_pinsAt hb e)))
          exact ⟨z.1, z.2.1⟩
        have hl : (wipe σ (own.map (·.2))).length = σy.length := by rw [← hw8, wipe_length]
        refine ⟨mm, hm, i + 1, Hn, (J.unpinned (pins := [])).weak hl (fun j v e => ?_), T.keep _ _ _ at7 fun b hb o e => (pin' b hb o e).1, fun b hb => ?_, wn⟩
        · rw [← hw8] at e
          exact (wipe_some e).1
        · obtain ⟨o, e, _⟩ := T.obj _ _ at7 b hb
          exact (pin' b hb o e).2
      cases b with
      | false =>
        rw [if_neg Bool.false_ne_true] at q9 ⊢
        exact fin J9 q9
      | true =>
        rw [if_pos rfl] at q9 ⊢
        have pe9 := pe (notedBy (model X.prog X.w) X.A ce (CompFails (model X.prog X.w) X.A X.xe ce)) (fun c d _ Hn => W c d σ Hn) fun σ' pins' Hc sc u sn Ic c => by
          obtain ⟨Io, ⟨m, hm⟩, fC⟩ := back Ic
          exact air_out hst frl cF tk Io hm fC.1 fC (fun _ _ _ h => h) c
        refine wpAny_mono (pe9.run _ s9 σy H9 _ (J9.wish _) q9) (fun z s10 hz => ?_) fun _ _ x => x
        obtain ⟨yv, H10, I10, r10, acc, hD10, hz10, nxt⟩ := hz
        exact app_ok (X := X.blk s3 H3 scope ce fp) I10.unwish hD10 hz10 r10 fun s11 I11 => fin I11 nxt
  exact codeAny_compStart_list turns (T.self X.A 0 _ _ _ at4 turns)
/-- as a value -/
theorem pe_lcX {elt tg iter : Expr} {ifs : List Expr} {scope : Scope} {own : List (Str × Nat)} {pos : Pos} {wi : TI} {g : TG} {tt : TT} {te : WX → TE} (hc : X.calm = true) (hN : X.N.Nodup) (hst : X.stack = X.env :: X.outer) (frl : X.env.frame = some X.env.locals)
    (tk : Takes X W) (hi : PI X tg iter wi) (bo : BlkOk X.N X.env.scope scope own)
    (hg : ∀ (s : Shared) (H : Hp) (C : Addr) (cl : List (Str × Addr)) (fp : List Addr), PG (X.blk s H scope (compEnvC scope cl C X.env) fp) tg g)
    (ht : ∀ (s : Shared) (H : Hp) (C : Addr) (cl : List (Str × Addr)) (fp : List Addr), PTs (X.blk s H scope (compEnvC scope cl C X.env) fp) ifs tt)
    (he : ElX X scope elt te) (hs : ∀ x, foldedSetIterable iter X.env x = pure x := by intro _; rfl) : PE X (.ListComp elt [⟨tg, iter, ifs, 0⟩] scope pos) (tLcX wi g tt te W (own.map (·.2))) := by
  refine ⟨fun pins s σ H Q I h => ?_⟩
  rw [eval_ListComp]
  refine lc_coreX hc hN hst frl tk I hi bo hg ht he hs h fun D C sn m Hn J q hn f => ⟨m, hn, fun h'' sb => ?_⟩
  exact ⟨.ref D, Hn, J.turned (t' := sn.toks) (fun b o hb e => (sb.2 b hb).trans e) f.1 f.2.1 f.2.2.2.1 f.2.2.2.2.1 f.2.2.2.2.2, rfl, q⟩
/-- y = [..] on one row, y a local name -/
theorem ps_setLcX {i : Nat} {y : Str} {py : Pos} {elt tg iter : Expr} {ifs : List Expr} {scope : Scope} {own : List (Str × Nat)} {pos spos : Pos} {wi : TI} {g : TG} {tt : TT} {te : WX → TE} (hc : X.calm = true) (hN : X.N.Nodup)
    (hst : X.stack = X.env :: X.outer) (frl : X.env.frame = some X.env.locals) (tk : Takes X W) (hy : X.N[i]? = some y) (hyl : X.env.scope.names.lookup y = some .local)
    (swp : swapsWith (.ListComp elt [⟨tg, iter, ifs, 0⟩] scope pos) (some (.Name y py)) spos.line X.env = pure true) (hi : PI X tg iter wi) (bo : BlkOk X.N X.env.scope scope own)
    (hg : ∀ (s : Shared) (H : Hp) (C : Addr) (cl : List (Str × Addr)) (fp : List Addr), PG (X.blk s H scope (compEnvC scope cl C X.env) fp) tg g)
    (ht : ∀ (s : Shared) (H : Hp) (C : Addr) (cl : List (Str × Addr)) (fp : List Addr), PTs (X.blk s H scope (compEnvC scope cl C X.env) fp) ifs tt)
    (he : ElX X scope elt te) (hs : ∀ x, foldedSetIterable iter X.env x = pure x := by intro _; rfl) :
    PS X (.Assign [.Name y py] (.ListComp elt [⟨tg, iter, ifs, 0⟩] scope pos) spos) (tAsg (tLcX wi g tt te W (own.map (·.2))) (gName i)) := by
  refine ⟨fun pins s σ H D I h => ?_⟩
  rw [exec_Assign_Name_used _ _ _ _ swp]
  refine wpAny_bind ?_
  refine wpAny_standAt (wpAny_bind ?_)
  change wpAny _ X.A (do let _ ← comprehension (.ListComp elt [⟨tg, iter, ifs, 0⟩] scope pos) scope X.env (firstIterPos [⟨tg, iter, ifs, 0⟩] pos) (newList []) false (eval iter X.env) (some (assign (.Name y py) X.env))) _ _ s
  have h' : tLcX wi g tt te W (own.map (·.2)) σ H (fun x H1 => gName i x σ H1 D.nx) := h
  have core := lc_coreX (use := some (assign (.Name y py) X.env)) (Qf := fun _ sn => SP X pins D .next sn) (pos := pos) (pos' := firstIterPos [⟨tg, iter, ifs, 0⟩] pos) hc hN hst frl tk I hi bo hg ht he hs h' fun L C sn m Hn J q hn f => ?_
  · exact wpAny_bind (thn core fun _ sn hq => wpAny_pure (wpAny_pure hq))
  · show wpAny _ _ (assign (.Name y py) X.env (.ref L)) _ _ _
    refine wpAny_assign_Name (store_ok2 (v := V.ref L) J hN hy (.inl hyl) rfl (fun s2 J2 hh => ?_) (.inr hyl))
    obtain ⟨a, sb, ha⟩ := hh
    have hCa : C ≠ a := by
      rcases ha with z | z
      · rw [z]; exact f.2.1
      · exact fun e => f.2.2.2.2.1 y a z e.symm
    refine ⟨m, hn.sameBut sb hCa, fun h3 sb3 => ?_⟩
    exact ⟨_, Hn, J2.turned (t' := s2.toks) (fun b o hb e => (sb3.2 b hb).trans e) f.1 f.2.1 f.2.2.2.1 f.2.2.2.2.1 f.2.2.2.2.2, q⟩
end
end L2
end
section
set_option Elab.async false
set_option linter.all false
set_option maxRecDepth 100000
set_option maxHeartbeats 4000000
namespace L2
open PySem PySem.Spec PyProof.Rows
/-- an own error made with nothing handed over -/
theorem pmk_own0 {X : Cx} {C : Addr} {bm : List Value} {B n1 n2 : String} {x : Str} {p pos : Pos} (F : ExcBaseFacts B n1 n2 bm) (q : PySem.W.excIn X.K C bm n1 = true) (gC : X.mg x = some (.ref C)) (kC : PySem.W.keepIn X.K (.ref C) = true)
    (r : Raises X (.ref C)) (hg : Gl X x := by rfl) (hdb : (x == ("__debug__" : Str)) = false := by decide) : PMk X (.Call (.Name x p) [] [] pos) (fun _ H Q => Q (.ref C) none H) := by
  intro pins s σ H Q I h
  refine wpAny_Call_Name_kw (ld_glob I hg gC ?_ hdb)
  refine PySem.W.callWith_K0 I.kIn kC ?_
  show wpAny _ _ (call (.ref C) []) _ _ _
  obtain ⟨_, _, _, _, _, _, _, _, _, _, _, _, _, _, _, _, _, hC, hN, hni, T⟩ := exc_obj I.kIn q
  exact wpAny_call_exc_subT F T hC hN hni (fun h' e hm => mk_of I hm r h (I.hok.gone hm.new)) (Nat.zero_le _)
end L2
namespace Hs
open PySem PySem.Spec PyProof.Rows L2 Kt Nest Tl
abbrev CN (K : PySem.W.Frag) : Addr := ga K "NoToldKind"
structure NtkT (K : PySem.W.Frag) (mg : Str → Option Value) : Prop where
  gC : mg "NoToldKind" = some (.ref (CN K))
  xc : PySem.W.excIn K (CN K) [.type "Exception", .type "BaseException", .type "object"] "Exception.__new__" = true
  kC : PySem.W.keepIn K (.ref (CN K)) = true
  sub : PySem.W.subIn K (.ref (CN K)) (.type "BaseException") = some true
  ty : PySem.W.typeIn K (.ref (CN K)) = some (.type "type")
  tn : PySem.W.exmOne K (.ref (CN K)) (.ref (CN K)) = some true
  tf : PySem.W.exmOne K (.ref (CN K)) (.ref (ga K "Fault")) = some false
/-- raise NoToldKind() -/
theorem ps_raiseNtk {X : Cx} {W : WX} {p pos pos2 : Pos} (hc : X.calm = true) (T : NtkT X.K X.mg) (tk : Takes X W) (hg : Gl X "NoToldKind" := by rfl) :
    PS X (.Raise (some (.Call (.Name "NoToldKind" p) [] [] pos)) none pos2) (fun _ σ H => W (.ref (CN X.K)) none σ H) :=
  ps_raise hc tk (pmk_own0 PySem.F.excBase_Exception T.xc T.gC T.kC (raises_own T.sub T.ty) hg)
section
variable {P : Program} {w : World} {K : PySem.W.Frag} {mg : Str → Option Value} {base : Heap}
/-- what a reader of told kinds owes, behind a table -/
def KrQ (P : Program) (w : World) (K : PySem.W.Frag) (H : Hp) (k : Addr) (T : List Rw) (o : KO) (n : Nat) (res : Option War.K) (Q : VK) (E : XK) : Prop :=
  (∀ kd, res = some kd → ∀ H' T' o' (i : Nat), ExtT T T' → KTab P w K H' k T' o' → o.sameAs o' → SameX [o.ra, o.na, o.ha] H H' → T'.length ≤ T.length + n → i < T'.length → kAt T' i = kd → Q (V.int (i : Int)) H') ∧
  (res = none → ∀ H', SameX [o.ra, o.na, o.ha] H H' → E (.ref (CN K)) none H')
theorem KO.l_plain (o : KO) : o.fs.lookup ("plain" : Str) = none := by kernel_rfl
theorem KO.l_list_of (o : KO) : o.fs.lookup ("list_of" : Str) = none := by kernel_rfl
theorem KO.l_record_of (o : KO) : o.fs.lookup ("record_of" : Str) = none := by kernel_rfl
theorem KO.l_sort_named (o : KO) : o.fs.lookup ("sort_named" : Str) = none := by kernel_rfl
theorem ExtT.trans {T T1 T2 : List Rw} (a : ExtT T T1) (b : ExtT T1 T2) : ExtT T T2 := by
  obtain ⟨l1, q1⟩ := a
  obtain ⟨l2, q2⟩ := b
  exact ⟨l1 ++ l2, by rw [q2, q1, List.append_assoc]⟩
theorem KO.sameAs.trans {o o1 o2 : KO} (a : o.sameAs o1) (b : o1.sameAs o2) : o.sameAs o2 := by
  obtain ⟨a1, a2, a3, a4, a5⟩ := a
  obtain ⟨c1, c2, c3, c4, c5⟩ := b
  exact ⟨c1.trans a1, c2.trans a2, c3.trans a3, c4.trans a4, c5.trans a5⟩
theorem KO.sameAs.x {o o1 : KO} (a : o.sameAs o1) {H H' : Hp} (s : SameX [o1.ra, o1.na, o1.ha] H H') : SameX [o.ra, o.na, o.ha] H H' := by
  obtain ⟨a1, a2, a3, a4, a5⟩ := a
  rw [← a1, ← a2, ← a3]
  exact s
theorem KrQ.next {H H1 : Hp} {k : Addr} {T T1 : List Rw} {o o1 : KO} {n n1 : Nat} {res : Option War.K} {Q : VK} {E : XK} (q : KrQ P w K H k T o n res Q E) (e : ExtT T T1) (so : o.sameAs o1) (s : SameX [o.ra, o.na, o.ha] H H1) (hl : T1.length + n1 ≤ T.length + n) :
    KrQ P w K H1 k T1 o1 n1 res Q E :=
  ⟨fun kd hk H' T' o' i e' B' so' s' l' hi hkd => q.1 kd hk H' T' o' i (e.trans e') B' (so.trans so') (s.trans (so.x s')) (by omega) hi hkd, fun hn H' s' => q.2 hn H' (s.trans (so.x s'))⟩
theorem numQ_of {H : Hp} {k : Addr} {T : List Rw} {o : KO} {n : Nat} {kd : War.K} {r : Rw} {Q : VK} {E : XK} (q : KrQ P w K H k T o n (some kd) Q E) (hn : 0 < n) (hm : ∀ T', ExtT T T' → r.mean (kAt T') = kd) : NumQ P w K H k T o r Q :=
  fun H' T' o' i hT hi B' so s' => by
    have e : ExtT T T' := by
      rcases hT with z | z
      · rw [z]; exact ExtT.refl T
      · exact ⟨[r], z⟩
    have hl : T'.length ≤ T.length + n := by
      rcases hT with z | z
      · rw [z]; omega
      · rw [z, List.length_append, List.length_singleton]; omega
    exact q.1 kd rfl H' T' o' i e B' so s' hl (List.getElem?_eq_some_iff.mp hi).1 (by rw [kAt_row B'.wf hi, hm T' e])
theorem plain_mean {r : Rw} (h : r ∈ T7) (f : Nat → War.K) : r.mean f = plainOf r := by
  simp only [T7, List.mem_cons, List.not_mem_nil, or_false] at h
  rcases h with e | e | e | e | e | e | e <;> subst e <;> rfl
theorem nmV_names (l : List Sw.Bytes) : nmV true l = (l.map spell).map V.str := by
  unfold nmV
  rw [if_pos rfl, List.map_map]
  rfl
theorem sp1L_len (c : UInt8) : (sp1L c.toNat).length ≤ 5 := by
  have e : ∀ n : Fin 256, (sp1L n.val).length ≤ 5 := by decide +kernel
  exact e ⟨c.toNat, c.toNat_lt⟩
theorem spell_len : ∀ n : Sw.Bytes, (spell n).length ≤ 5 * n.length := fun n => by
  have h : ∀ n : Sw.Bytes, (n.flatMap fun c => sp1L c.toNat).length ≤ 5 * n.length := fun n => by
    induction n with
    | nil => exact Nat.le_refl _
    | cons c n ih =>
      rw [List.flatMap_cons, List.length_append, List.length_cons]
      have := sp1L_len c
      omega
  have e := spell_codes n
  have q := h n
  rw [← e] at q
  exact q
theorem nameIn_eq (v : Sw.Value) : War.nameIn v = if War.isName (Rd.textB v) = true then some (Rd.textB v) else none := by
  have h0 : War.isName [] = false := by decide +kernel
  cases v with
  | text t => rfl
  | _ =>
    show none = if War.isName [] = true then some ([] : Sw.Bytes) else none
    rw [h0]
    rfl
theorem textB_le (v : Sw.Value) : (Rd.textB v).length ≤ v.enc.length := by
  cases v with
  | text t =>
    rw [text_enc]
    show (Sw.utf8 t).length ≤ _
    unfold txtB sigB
    simp only [List.length_cons, List.length_append]
    omega
  | _ => exact Nat.zero_le _
theorem told_none {m : Sw.Row} (n1 : m.names ≠ [Sw.word "list"]) (n2 : m.names ≠ [Sw.word "record"]) (n3 : m.names ≠ [Sw.word "in", Sw.word "sort"]) : War.toldKind (.rec_ m) = none := by
  cases m with
  | nil => rw [War.toldKind.eq_def]
  | cons n v r =>
    cases r with
    | nil =>
      rw [War.toldKind.eq_def]
      dsimp only
      rw [if_neg (fun z => n1 (by rw [z]; rfl)), if_neg (fun z => n2 (by rw [z]; rfl))]
    | cons k w r =>
      cases r with
      | nil =>
        rw [War.toldKind.eq_def]
        dsimp only
        rw [if_neg (fun z => n3 (by rw [z.1, z.2]; rfl))]
      | cons _ _ _ => rw [War.toldKind.eq_def]
theorem dec_nat (a b : Nat) : decide (V.int (a : Int) = V.int (b : Int)) = decide (a = b) := by
  by_cases e : a = b
  · rw [e, decide_eq_true rfl, decide_eq_true rfl]
  · rw [decide_eq_false e, decide_eq_false]
    intro z
    injection z with z
    omega
/-- a value's names: a record has some -/
def nmsOf (v : Sw.Value) : List Sw.Bytes := if isRec v = true then (rowV v).names else []
theorem nmV_of (v : Sw.Value) : nmV (isRec v) (rowV v).names = ((nmsOf v).map spell).map V.str := by
  unfold nmsOf
  cases isRec v with
  | true => rw [if_pos rfl]; exact nmV_names _
  | false => rfl
theorem hC0 : (T7.map formS).contains (spell []) = false := by decide +kernel
/-- a plain kind's word, or no text that tells a kind -/
theorem plain_case (v : Sw.Value) : (∃ r ∈ T7, spell (Rd.textB v) = formS r ∧ War.toldKind v = some (plainOf r)) ∨ ((T7.map formS).contains (spell (Rd.textB v)) = false ∧ (isRec v = false → War.toldKind v = none)) := by
  cases v with
  | text t =>
    rcases text_told t with h | ⟨h1, h2⟩
    · exact .inl h
    · exact .inr ⟨h1, fun _ => h2⟩
  | rec_ m => exact .inr ⟨hC0, fun z => Bool.noConfusion z⟩
  | _ => exact .inr ⟨hC0, fun _ => by rw [War.toldKind.eq_def]⟩
theorem shaped_tuple (l : List Sw.Bytes) : SeqAt.shaped (.tuple ((l.map spell).map PyData.str)) = true := shaped_list l
/-- two tuples of spelled names, one == the other -/
theorem rd_tnames {H : Hp} {x y : Addr} {a b : List Sw.Bytes} {Q : VK} (hx : SqT K H x ((a.map spell).map V.str)) (hy : SqT K H y ((b.map spell).map V.str)) (q : Q (.bl (decide (a = b))) H) : rEqD K (.ref x) (.ref y) H Q := by
  refine ⟨.tuple ((a.map spell).map PyData.str), .tuple ((b.map spell).map PyData.str), .tup hx (dp_strs _), .tup hy (dp_strs _), shaped_tuple _, shaped_tuple _, ?_⟩
  rw [PyData.eqv, eqv_all_strs, dec_spells]
  exact q
theorem rdMemText (T : TRd K mg) {σ : L2.St} {H : Hp} {x y dx dy : Addr} {f g : RF} {ys : List V} {j : Nat} {Q : VK} (hs : σ[1]? = some (some (.ref x))) (hx : H x = some (.ins (CRaw K) dx f.fs)) (hm : H f.ml = some (.lst ys)) (hy : ys[j]? = some (.ref y))
    (hyo : H y = some (.ins (CRaw K) dy g.fs)) (q : Q (.str g.text) H) : tFld K (tOp (rIxL K) (tFld K (tVar 1) "members") (tC (V.int (j : Int)))) "text" σ H Q :=
  ⟨_, hs, x, CRaw K, dx, _, _, rfl, hx, T.RawC.cl, T.rawN _ (by simp), RF.l_members f, f.ml, ys, (j : Int), _, rfl, rfl, SqL.of hm, atI_nat hy, y, CRaw K, dy, _, _, rfl, hyo, T.RawC.cl, T.rawN _ (by simp), RF.l_text g, q⟩
theorem rawT_b {H : Hp} {M : List Addr} {v : Sw.Value} {x : Addr} {p : Nat} (R : RawT K H M v x p) : ∃ nl ml xs, RawB K H M v x p nl ml xs := by
  cases v with
  | list m => obtain ⟨nl, ml, xs, h, _⟩ := R; exact ⟨nl, ml, xs, h⟩
  | rec_ m => obtain ⟨nl, ml, xs, h, _⟩ := R; exact ⟨nl, ml, xs, h⟩
  | no => obtain ⟨nl, ml, h⟩ := R; exact ⟨nl, ml, [], h⟩
  | yes => obtain ⟨nl, ml, h⟩ := R; exact ⟨nl, ml, [], h⟩
  | num z => obtain ⟨nl, ml, h⟩ := R; exact ⟨nl, ml, [], h⟩
  | bytes z => obtain ⟨nl, ml, h⟩ := R; exact ⟨nl, ml, [], h⟩
  | text z => obtain ⟨nl, ml, h⟩ := R; exact ⟨nl, ml, [], h⟩
  | moment z => obtain ⟨nl, ml, h⟩ := R; exact ⟨nl, ml, [], h⟩
  | id z => obtain ⟨nl, ml, h⟩ := R; exact ⟨nl, ml, [], h⟩
theorem rowT_get {H : Hp} {M : List Addr} {named : Bool} : ∀ {m : Sw.Row} {xs : List Addr} {q i : Nat} {x : Addr}, RowT K H M named m xs q → xs[i]? = some x → ∃ v q', m.values[i]? = some v ∧ RawT K H M v x q' ∧ v.deep ≤ m.deep
  | .nil, [], q, i, x, h, e => by simp at e
  | .cons n v m, y :: xs, q, 0, x, h, e => by
    obtain ⟨R, _⟩ := h
    have : y = x := by simpa using e
    rw [this] at R
    exact ⟨v, _, rfl, R, by rw [Sw.Row.deep]; omega⟩
  | .cons n v m, y :: xs, q, i + 1, x, h, e => by
    obtain ⟨_, R⟩ := h
    obtain ⟨u, q', e1, e2, e3⟩ := rowT_get R (i := i) (by simpa using e)
    exact ⟨u, q', e1, e2, by rw [Sw.Row.deep]; omega⟩
  | .nil, _ :: _, _, _, _, h, _ => h.elim
  | .cons _ _ _, [], _, _, _, h, _ => h.elim
structure TKr (K : PySem.W.Frag) (mg : Str → Option Value) : Prop where
  read_kind : FnT K mg "read_kind" s_read_kind
  read_record : FnT K mg "read_record" s_read_record
  all_names : FnT K mg "all_names" s_all_names
  sort_named : MeT K "Kinds" "sort_named" "Kinds.sort_named" s_Kinds_sort_named
def spSortNamed (P : Program) (w : World) (K : PySem.W.Frag) : Sp := fun vs H Q _ => ∃ (k : Addr) (T : List Rw) (o : KO) (a b : Sw.Bytes), vs = [.ref k, .str (spell a), .str (spell b)] ∧ KTab P w K H k T o ∧ T.length < 1000000 ∧ NumQ P w K H k T o (.sort a b) Q
theorem ok_sort_named (T0 : TKd K mg) (T3 : TKr K mg) : FnOk P w K mg base CX0 2 (ma K "Kinds" "sort_named") (fdA K (ma K "Kinds" "sort_named")) ["self", "home", "name"] (spSortNamed P w K) := by
  have GN : FnOk P w K mg base CX0 1 (ma K "Kinds" "number_of") (fdA K (ma K "Kinds" "number_of")) ["self", "form", "names", "parts"] (spNum P w K) := ok_number_of T0
  have bN := b_Kinds_number_of T0.number_of.f
  refine T3.sort_named.f.ok sc_Kinds_sort_named (fun vs H Q E h => by obtain ⟨_, _, _, _, _, rfl, _⟩ := h; rfl) (fun cdv A outer s H vs Q E hr h => ⟨_, PSs.nox
    (pss_one (ps_ret (pe_meth (pv 0) T0.C.cl T0.number_of.me GN hr bN .nil pass0 (pa_cons pe_str (pa_cons (pe_tup (pa_cons (pv 1) (pa_cons (pv 2) pa_nil))) (pa_cons (pe_tup pa_nil) pa_nil)))))), ?_⟩)
  obtain ⟨k, T, o, a, b, rfl, B, hT, kQ⟩ := h
  obtain ⟨⟨dk, hk⟩, _⟩ := id B
  refine ⟨_, rfl, k, dk, _, rfl, hk, o.l_number_of, _, rfl, _, rfl, (by show 2 ≤ sizeLine; rw [sizeLine_eq]; decide), fun nA q1 => ⟨nil_le, fun pA q2 => ?_⟩⟩
  have s1 := same_upd (o := HO.tup [V.str (spell a), V.str (spell b)]) q1
  have s2 := same_upd (o := HO.tup []) q2
  exact ⟨k, nA, pA, T, o, .sort a b, rfl, B.to (SameX.of (s1.trans s2)), s2 _ _ upd_same, upd_same, ⟨fun x hx => (by cases hx), fun ns ps e => by cases e⟩, trivial, hT, (by show 0 < _; decide), kQ.at (s1.trans s2)⟩
def spAllNames (K : PySem.W.Frag) : Sp := fun vs H Q _ => ∃ (L : Addr) (ns : List Sw.Bytes), vs = [.ref L] ∧ SqL K H L ((ns.map spell).map V.str) ∧ (∀ n ∈ ns, n.length ≤ 100000) ∧ ns.length < 100000 ∧ ∀ H', Same H H' → Q (.bl (ns.all War.isName)) H'
theorem ok_all_names (T2 : TTk K mg) (T3 : TKr K mg) (hKw : TupT K mg "KEYWORDS" (kwS.map V.str)) : FnOk P w K mg base CX0 3 (ga K "all_names") (fdA K (ga K "all_names")) ["texts"] (spAllNames K) := by
  have GI : FnOk P w K mg base CX0 2 (ga K "is_name") (fdA K (ga K "is_name")) ["text"] spName := ok_is_name T2 hKw
  have bI := b_is_name T2.is_name.f
  refine T3.all_names.f.ok sc_all_names (fun vs H Q E h => by obtain ⟨_, _, rfl, _⟩ := h; rfl) (fun cdv A outer s H vs Q E hr h => ⟨_, PSs.nox
    (pss_one (ps_ret (pe_callB (cr_all rfl) (by rfl) T2.all (by decide +kernel) (pa_cons
        (pe_lc (own := [("text", 1)]) (g := gName 1) (tt := tYes) (te := tCall spName [] E0 (tCons (tVar 1) tNil)) rfl sc_all_names.nd (pi_list (pv 0)) (blkOk_by (N := N_all_names) (sc := defScope s_all_names) (by decide +kernel)) (fun _ _ _ _ _ => pg_name (i := 1) sc_all_names.nd rfl (Or.inl rfl)) (fun _ _ _ _ _ => pts_nil)
          (fun _ _ _ _ _ => by exact (pe_call GI hr rfl T2.is_name.g T2.is_name.kp bI .nil pass0 (pa_cons (pv 1) pa_nil)))) pa_nil)))), ?_⟩)
  obtain ⟨L, ns, rfl, hL, hle, hlen, kQ⟩ := h
  dsimp only [tCB, tCons, tNil, tLc, iList, tVar]
  refine ⟨_, rfl, L, rfl, ⟨_, hL⟩, ?_⟩
  intro D hD
  refine lc_list (fun i H' => Same H H' ∧ H' D = some (.lst ((ns.take i).map fun n => V.bl (War.isName n)))) ⟨same_upd hD, upd_same⟩ (fun i H' _ q => q.1.seq hL) (fun i y H' hy ⟨s', q⟩ => ?_) (fun H' ⟨s', q⟩ => ?_)
  · rw [List.getElem?_map, List.getElem?_map, Option.map_map] at hy
    obtain ⟨n, hn, rfl⟩ := Option.map_eq_some_iff.mp hy
    have hm := hle n (List.mem_of_getElem? hn)
    have sl := spell_len n
    refine ⟨rfl, yesT ⟨_, rfl, spell n, rfl, by omega, fun H4 s4 => ⟨_, s4 _ _ q, ?_, ?_, ?_⟩⟩⟩
    · rw [List.length_map, List.length_take, sizeLine_eq]
      omega
    · intro b u hb
      rw [upd_ne (fun z => by rw [z, hD] at hb; cases hb)]
      exact s4 _ _ (s' _ _ hb)
    · rw [upd_same, name_spell, List.take_add_one, hn, List.map_append]
      rfl
  · have hlen2 : (List.map V.str (List.map spell ns)).length = ns.length := by rw [List.length_map, List.length_map]
    rw [hlen2, List.take_length] at q
    refine ⟨D, ns.map War.isName, rfl, SqL.of (by rw [List.map_map]; exact q), ?_⟩
    rw [List.all_map]
    exact kQ H' s'
end
end Hs
end
section
set_option Elab.async false
set_option linter.all false
set_option maxRecDepth 100000
set_option maxHeartbeats 4000000
namespace Hs
open PySem PySem.Spec PyProof.Rows L2 Kt Nest Tl
section
variable {P : Program} {w : World} {K : PySem.W.Frag} {H : Hp} {k : Addr} {T : List Rw} {o : KO}
/-- a list that isn't one of a table's -/
theorem lst_off (B : KTab P w K H k T o) (hT : 0 < T.length) {D : List (List Key × V)} (hg : H o.ga = some (.dT D)) {a : Addr} {l : List V} (ha : H a = some (.lst l)) (h1 : ∀ r l', l = V.ref r :: l' → ∀ v, H r ≠ some (.tup v)) (h2 : ∀ b l', l ≠ V.bl b :: l') : a ∉ [o.ra, o.na, o.ha, o.ga] := by
  have hrl := B.len
  simp only [List.mem_cons, List.not_mem_nil, or_false]
  rintro (e | e | e | e)
  · rw [e, B.rows] at ha
    injection ha with ha
    injection ha with ha
    cases hr : o.rows with
    | nil => rw [hr] at hrl; simp at hrl; omega
    | cons r rs =>
      rw [hr] at ha
      have h0 : T[0]? = some T[0] := List.getElem?_eq_getElem hT
      obtain ⟨b, c, q, _⟩ := B.keys 0 r _ (by rw [hr]; rfl) h0
      exact h1 r _ ha.symm _ q
  · rw [e, B.nums] at ha; cases ha
  · rw [e, B.hol] at ha
    injection ha with ha
    injection ha with ha
    cases hr : T with
    | nil => rw [hr] at hT; simp at hT
    | cons r rs =>
      have z : holV (r :: rs) = V.bl (hollowAt (r :: rs) 0) :: ((List.range rs.length).map Nat.succ).map fun i => V.bl (hollowAt (r :: rs) i) := by
        unfold holV
        rw [List.length_cons, List.range_succ_eq_map, List.map_cons]
      rw [hr, z] at ha
      exact h2 _ _ ha.symm
  · rw [e, hg] at ha; cases ha
theorem ins_off (B : KTab P w K H k T o) {D : List (List Key × V)} (hg : H o.ga = some (.dT D)) {x C dx : Addr} {fs : List (Str × V)} (hx : H x = some (.ins C dx fs)) : x ∉ [o.ra, o.na, o.ha, o.ga] := by
  simp only [List.mem_cons, List.not_mem_nil, or_false]
  rintro (e | e | e | e)
  · rw [e, B.rows] at hx; cases hx
  · rw [e, B.nums] at hx; cases hx
  · rw [e, B.hol] at hx; cases hx
  · rw [e, hg] at hx; cases hx
theorem rawT_ins {M : List Addr} {v : Sw.Value} {x : Addr} {p : Nat} (R : RawT K H M v x p) : ∃ dx fs, H x = some (.ins (CRaw K) dx fs) := by
  obtain ⟨nl, ml, xs, ⟨⟨dx, ll, h⟩, _⟩⟩ := rawT_b R
  exact ⟨dx, _, h⟩
/-- a value's objects are none of a table's -/
theorem rawB_off (B : KTab P w K H k T o) (hT : 0 < T.length) {D : List (List Key × V)} (hg : H o.ga = some (.dT D)) {v : Sw.Value} {x nl ml : Addr} {p : Nat} {xs : List Addr} (R : RawB K H [] v x p nl ml xs) (hxs : ∀ y l, xs = y :: l → ∃ dx fs, H y = some (.ins (CRaw K) dx fs)) :
    RawB K H [o.ra, o.na, o.ha, o.ga] v x p nl ml xs := by
  obtain ⟨⟨dx, ll, hx⟩, hn, hm, _, _, _⟩ := R
  refine ⟨⟨dx, ll, hx⟩, hn, hm, ins_off B hg hx, lst_off B hT hg hn (fun r l' e => ?_) (fun b l' e => ?_), lst_off B hT hg hm (fun r l' e v q => ?_) (fun b l' e => ?_)⟩
  · rw [nmV_of] at e
    cases hq : nmsOf v with
    | nil => rw [hq] at e; cases e
    | cons n ns => rw [hq] at e; cases e
  · rw [nmV_of] at e
    cases hq : nmsOf v with
    | nil => rw [hq] at e; cases e
    | cons n ns => rw [hq] at e; cases e
  · cases xs with
    | nil => cases e
    | cons y l =>
      injection e with e _
      injection e with e
      obtain ⟨dy, fs, hy⟩ := hxs y l rfl
      rw [e, q] at hy
      cases hy
  · cases xs with
    | nil => cases e
    | cons y l => cases e
mutual
theorem rawT_off (B : KTab P w K H k T o) (hT : 0 < T.length) {D : List (List Key × V)} (hg : H o.ga = some (.dT D)) : ∀ (v : Sw.Value) {x : Addr} {p : Nat}, RawT K H [] v x p → RawT K H [o.ra, o.na, o.ha, o.ga] v x p
  | .list m, x, p, h => by
    obtain ⟨nl, ml, xs, RB, R⟩ := h
    have R' := rowT_off B hT hg m R
    exact ⟨nl, ml, xs, rawB_off B hT hg RB (rowT_ins R), R'⟩
  | .rec_ m, x, p, h => by
    obtain ⟨nl, ml, xs, RB, R⟩ := h
    have R' := rowT_off B hT hg m R
    exact ⟨nl, ml, xs, rawB_off B hT hg RB (rowT_ins R), R'⟩
  | .no, _, _, h => by obtain ⟨nl, ml, R⟩ := h; exact ⟨nl, ml, rawB_off B hT hg R (fun _ _ e => by cases e)⟩
  | .yes, _, _, h => by obtain ⟨nl, ml, R⟩ := h; exact ⟨nl, ml, rawB_off B hT hg R (fun _ _ e => by cases e)⟩
  | .num z, _, _, h => by obtain ⟨nl, ml, R⟩ := h; exact ⟨nl, ml, rawB_off B hT hg R (fun _ _ e => by cases e)⟩
  | .bytes b, _, _, h => by obtain ⟨nl, ml, R⟩ := h; exact ⟨nl, ml, rawB_off B hT hg R (fun _ _ e => by cases e)⟩
  | .text t, _, _, h => by obtain ⟨nl, ml, R⟩ := h; exact ⟨nl, ml, rawB_off B hT hg R (fun _ _ e => by cases e)⟩
  | .moment z, _, _, h => by obtain ⟨nl, ml, R⟩ := h; exact ⟨nl, ml, rawB_off B hT hg R (fun _ _ e => by cases e)⟩
  | .id b, _, _, h => by obtain ⟨nl, ml, R⟩ := h; exact ⟨nl, ml, rawB_off B hT hg R (fun _ _ e => by cases e)⟩
theorem rowT_off (B : KTab P w K H k T o) (hT : 0 < T.length) {D : List (List Key × V)} (hg : H o.ga = some (.dT D)) : ∀ (m : Sw.Row) {named : Bool} {xs : List Addr} {q : Nat}, RowT K H [] named m xs q → RowT K H [o.ra, o.na, o.ha, o.ga] named m xs q
  | .nil, _, [], _, _ => True.intro
  | .nil, _, _ :: _, _, h => h
  | .cons n v r, _, [], _, h => h
  | .cons n v r, named, x :: xs, q, h => ⟨rawT_off B hT hg v h.1, rowT_off B hT hg r h.2⟩
theorem rowT_ins {m : Sw.Row} {named : Bool} {xs : List Addr} {q : Nat} (R : RowT K H [] named m xs q) : ∀ y l, xs = y :: l → ∃ dx fs, H y = some (.ins (CRaw K) dx fs) := fun y l e => by
  subst e
  cases m with
  | nil => exact R.elim
  | cons n v r => exact rawT_ins R.1
end
end
end Hs
end
section
set_option Elab.async false
set_option linter.all false
set_option maxRecDepth 100000
set_option maxHeartbeats 4000000
namespace Hs
open PySem PySem.Spec PyProof.Rows L2 Kt Nest Tl
section
variable {P : Program} {w : World} {K : PySem.W.Frag} {mg : Str → Option Value} {base : Heap}
def spKr (P : Program) (w : World) (K : PySem.W.Frag) (d : Nat) : Sp := fun vs H Q E => ∃ (k x : Addr) (T : List Rw) (o : KO) (v : Sw.Value) (p : Nat), vs = [.ref k, .ref x] ∧ KTab P w K H k T o ∧ RawT K H [o.ra, o.na, o.ha, o.ga] v x p ∧ v.deep ≤ d ∧ T.length + v.enc.length < 100000 ∧ KrQ P w K H k T o v.enc.length (War.toldKind v) Q E
def recOf (v : Sw.Value) : Option War.K := match v with
  | .rec_ m => if m.names.all War.isName = true then (War.toldRow m).map War.K.record else none
  | _ => none
def spRr (P : Program) (w : World) (K : PySem.W.Frag) (d : Nat) : Sp := fun vs H Q E => ∃ (k x : Addr) (T : List Rw) (o : KO) (v : Sw.Value) (p : Nat), vs = [.ref k, .ref x] ∧ KTab P w K H k T o ∧ RawT K H [o.ra, o.na, o.ha, o.ga] v x p ∧ v.deep ≤ d + 1 ∧ T.length + v.enc.length < 100000 ∧ KrQ P w K H k T o v.enc.length (recOf v) Q E
theorem two_leS {v u : V} : [v, u].length ≤ sizeLine := by
  rw [sizeLine_eq]
  show 2 ≤ _
  decide
theorem one_leS {v : V} : [v].length ≤ sizeLine := by
  rw [sizeLine_eq]
  show 1 ≤ _
  decide
theorem nms_rec {v : Sw.Value} {n : Sw.Bytes} {r : List Sw.Bytes} (h : nmsOf v = n :: r) : ∃ m, v = .rec_ m ∧ m.names = n :: r := by
  cases v with
  | rec_ m => exact ⟨m, rfl, h⟩
  | _ => cases h
theorem told_no {v : Sw.Value} (h0 : isRec v = false → War.toldKind v = none) (n1 : nmsOf v ≠ [Sw.word "list"]) (n2 : nmsOf v ≠ [Sw.word "record"]) (n3 : nmsOf v ≠ [Sw.word "in", Sw.word "sort"]) : War.toldKind v = none := by
  cases v with
  | rec_ m => exact told_none n1 n2 n3
  | _ => exact h0 rfl
theorem ok_rk (T : TRd K mg) (T1 : TKd K mg) (T2 : TTk K mg) (T3 : TKr K mg) (N : NtkT K mg) (hPl : TupT K mg "PLAIN_KINDS" (T7.map fun r => V.str (formS r))) (hKw : TupT K mg "KEYWORDS" (kwS.map V.str)) {d l : Nat} (hl : 4 ≤ l)
    (GK : FnOk P w K mg base (L2.CX P w) l (ga K "read_kind") (fdA K (ga K "read_kind")) ["kinds", "raw"] (spKr P w K d)) (GR : FnOk P w K mg base (L2.CX P w) (l + 1) (ga K "read_record") (fdA K (ga K "read_record")) ["kinds", "raw"] (spRr P w K d)) :
    FnOk P w K mg base (L2.CX P w) (l + 2) (ga K "read_kind") (fdA K (ga K "read_kind")) ["kinds", "raw"] (spKr P w K (d + 1)) := by
  obtain ⟨pk, hpk, hsq⟩ := hPl
  have bK := b_read_kind T3.read_kind.f
  have bR := b_read_record T3.read_record.f
  have GP : FnOk P w K mg base CX0 2 (ma K "Kinds" "plain") (fdA K (ma K "Kinds" "plain")) ["self", "word"] (spPlainOf P w K) := ok_plain T1
  have bP := b_Kinds_plain T1.plain.f
  have GL : FnOk P w K mg base CX0 2 (ma K "Kinds" "list_of") (fdA K (ma K "Kinds" "list_of")) ["self", "member"] (spListOf P w K) := ok_list_of T1
  have bL := b_Kinds_list_of T1.list_of.f
  have GS : FnOk P w K mg base CX0 2 (ma K "Kinds" "sort_named") (fdA K (ma K "Kinds" "sort_named")) ["self", "home", "name"] (spSortNamed P w K) := ok_sort_named T1 T3
  have bS := b_Kinds_sort_named T3.sort_named.f
  have GA : FnOk P w K mg base CX0 3 (ga K "all_names") (fdA K (ga K "all_names")) ["texts"] (spAllNames K) := ok_all_names T2 T3 hKw
  have bA := b_all_names T3.all_names.f
  refine T3.read_kind.f.okX sc_read_kind (fun vs H Q E h => by obtain ⟨_, _, _, _, _, _, rfl, _⟩ := h; rfl) (fun cdv A outer s H vs Q E hr h => ⟨_,
    (pss_cons (ps_set (i := 2) sc_read_kind.nd rfl (Or.inl rfl) (pe_tupleOf (by rfl) T1.tuple (pe_fld (pv 1) rfl)))
    (pss_cons (ps_if (pt_cmpR op_in_seq (pe_fld (pv 1) rfl) (pe_glob (v := .ref pk) rfl hpk rfl) (by rfl))
      (pss_one (ps_ret (pe_meth (pv 0) T1.C.cl T1.plain.me GP (hr.mono (by omega)) bP .nil pass0 (pa_cons (pe_fld (pv 1) rfl) pa_nil)))) pss_nil)
    (pss_cons (ps_if (pt_cmpR (op_eqD hr.units) (pv 2) (pe_tup (pa_cons pe_str pa_nil)) (by rfl))
      (pss_one (ps_ret (pe_meth (pv 0) T1.C.cl T1.list_of.me GL (hr.mono (by omega)) bL .nil pass0
        (pa_cons (pe_call GK (hr.mono (by omega)) rfl T3.read_kind.g T3.read_kind.kp bK .nil (passes_call (takes_of (E := E) rfl rfl rfl rfl) (fun _ _ _ _ h => h)) (pa_cons (pv 0) (pa_cons (pe_ix ix_list (pe_fld (pv 1) rfl) pe_int (fun _ _ => rfl)) pa_nil))) pa_nil)))) pss_nil)
    (pss_cons (ps_if (pt_cmpR (op_eqD hr.units) (pv 2) (pe_tup (pa_cons pe_str pa_nil)) (by rfl))
      (pss_one (ps_ret (pe_call GR (hr.mono (by omega)) rfl T3.read_record.g T3.read_record.kp bR .nil (passes_call (takes_of (E := E) rfl rfl rfl rfl) (fun _ _ _ _ h => h)) (pa_cons (pv 0) (pa_cons (pe_ix ix_list (pe_fld (pv 1) rfl) pe_int (fun _ _ => rfl)) pa_nil))))) pss_nil)
    (pss_cons (ps_if (PW.pt (pw_and (pt_cmpR (op_eqD hr.units) (pv 2) (pe_tup (pa_cons pe_str (pa_cons pe_str pa_nil))) (by rfl))
        (pw_and1 (pt_val (pe_call GA (hr.mono (by omega)) rfl T3.all_names.g T3.all_names.kp bA .nil pass0
          (pa_cons (pe_lc (own := [("member", 3)]) (g := gName 3) (tt := tYes) (te := tFld K (tVar 3) "text") rfl sc_read_kind.nd (pi_list (pe_fld (pv 1) rfl)) (blkOk_by (N := N_read_kind) (sc := defScope s_read_kind) (by decide +kernel)) (fun _ _ _ _ _ => pg_name (i := 3) sc_read_kind.nd rfl (Or.inl rfl)) (fun _ _ _ _ _ => pts_nil)
            (fun _ _ _ _ _ => by exact (pe_fld (pv 3) rfl))) pa_nil))))))
      (pss_one (ps_ret (pe_meth (pv 0) T1.C.cl T3.sort_named.me GS (hr.mono (by omega)) bS .nil pass0 (pa_cons (pe_fld (pe_ix ix_list (pe_fld (pv 1) rfl) pe_int (fun _ _ => rfl)) rfl) (pa_cons (pe_fld (pe_ix ix_list (pe_fld (pv 1) rfl) pe_int (fun _ _ => rfl)) rfl) pa_nil))))) pss_nil)
    (pss_one (ps_raiseNtk (W := tkE E) rfl N (takes_of rfl rfl rfl rfl)))))))), ?_⟩)
  obtain ⟨k, x, T0, o, v, p, rfl, B, R, hd, hb, kQ⟩ := h
  obtain ⟨nl, ml, xs, RB⟩ := rawT_b R
  obtain ⟨⟨dx, ll, hx⟩, hnl, hml, mx, mn, mm⟩ := id RB
  obtain ⟨⟨dk, hk⟩, _⟩ := id B
  have natR := fun f h => T.rawN f h
  dsimp only [cxOf, tSeq, tIfS, tTest, tOp, tAsg, gName, tThen]
  refine rdFld (i := 1) (by rfl) hx T.RawC.cl (natR _ (by simp)) (RF.l_names _) ?_
  refine .inl ⟨nl, _, rfl, SqL.of hnl, fun tA hA => ?_⟩
  rw [nmV_of]
  have s0 := same_upd (o := HO.tup (((nmsOf v).map spell).map V.str)) hA
  dsimp only [tNext, tSeq, tIfS, tTest, tOp]
  refine rdFld (i := 1) (by rfl) (s0 _ _ hx) T.RawC.cl (natR _ (by simp)) (RF.l_text _) ?_
  refine ⟨pk, (T7.map formS).map V.str, rfl, .inr (by rw [List.map_map]; exact hsq _), rfl, flat_strs _, _, rfl, ?_⟩
  rw [inV_strs]
  have km : ∀ {H1}, Same H H1 → Keeps [o.ra, o.na, o.ha, o.ga] [o.ra, o.na, o.ha, o.ga] H H1 := fun s a u ha hm => ⟨s _ _ ha, hm⟩
  have none_ : ∀ {H1}, Same H H1 → War.toldKind v = none → E (.ref (CN K)) none H1 := fun s hn => kQ.2 hn _ (SameX.of s)
  rcases plain_case v with ⟨r, hr7, er, ek⟩ | ⟨hc, hn0⟩
  · have hc : (T7.map formS).contains (spell (Rd.textB v)) = true := by
      rw [er, List.contains_iff_mem]
      exact List.mem_map_of_mem hr7
    show if (T7.map formS).contains (spell (Rd.textB v)) = true then _ else _
    rw [hc]
    refine iteT ⟨_, rfl, k, dk, _, rfl, s0 _ _ hk, o.l_plain, ?_⟩
    refine rdFld (i := 1) (by rfl) (s0 _ _ hx) T.RawC.cl (natR _ (by simp)) (RF.l_text _) ?_
    rw [ek] at kQ
    exact ⟨k, T0, o, r, by rw [← er]; rfl, B.to (SameX.of s0), hr7, by omega, numQ_of (kQ.next (ExtT.refl _) ⟨rfl, rfl, rfl, rfl, rfl⟩ (SameX.of s0) (Nat.le_refl _)) (Rd.enc_pos _) fun T' _ => plain_mean hr7 _⟩
  show if (T7.map formS).contains (spell (Rd.textB v)) = true then _ else _
  rw [hc]
  refine iteF ?_
  refine ⟨_, rfl, one_leS, fun p1 hp1 => ?_⟩
  have s1 := s0.trans (same_upd (o := HO.tup [V.str "list"]) hp1)
  refine rd_tnames (a := nmsOf v) (b := [Sw.word "list"]) (SqT.of (same_upd hp1 _ _ upd_same)) (SqT.of (by rw [upd_same, ← w_list]; rfl)) ⟨_, rfl, ?_⟩
  by_cases n1 : nmsOf v = [Sw.word "list"]
  · rw [decide_eq_true n1]
    refine iteT ?_
    obtain ⟨m, rfl, n1⟩ := nms_rec n1
    clear RB hx hnl hml mx mn mm
    obtain ⟨nl, ml, xs, RB, RW⟩ := R
    obtain ⟨⟨dx, ll, hx⟩, hnl, hml, mx, mn, mm⟩ := id RB
    cases m with
    | nil => cases n1
    | cons n u r =>
      cases r with
      | cons _ _ _ => cases n1
      | nil =>
        obtain rfl : n = Sw.word "list" := by injection n1
        cases xs with
        | nil => cases RW
        | cons x1 xs =>
          obtain ⟨R1, RW⟩ := RW
          have ek : War.toldKind (.rec_ (.cons (Sw.word "list") u .nil)) = (War.toldKind u).map War.K.list := by rw [War.toldKind.eq_def]; dsimp only; rw [if_pos rfl]
          have hle : u.enc.length + 2 ≤ (Sw.Value.rec_ (.cons (Sw.word "list") u .nil)).enc.length := by
            rw [Sw.Value.enc, Sw.Row.enc, Sw.Row.enc, if_pos rfl]
            have : (Sw.word "list").length = 4 := rfl
            simp only [List.length_cons, List.length_append]
            omega
          have hde : u.deep ≤ d := by
            rw [Sw.Value.deep, Sw.Row.deep, Sw.Row.deep] at hd
            omega
          dsimp only [tRet, tSeq, tAsg, tCall, tCons, tNil, tOp]
          refine ⟨_, rfl, k, dk, _, rfl, s1 _ _ hk, o.l_list_of, _, rfl, ?_⟩
          dsimp only [tCons, tNil, tOp]
          refine rdFld (i := 1) (by rfl) (s1 _ _ hx) T.RawC.cl (natR _ (by simp)) (RF.l_members _) ?_
          refine ⟨ml, _, 0, V.ref x1, rfl, rfl, SqL.of (s1 _ _ hml), (atI_nat (xs := V.ref x1 :: xs.map V.ref) (j := 0) rfl), ?_⟩
          rw [ek] at kQ
          refine ⟨k, x1, T0, o, u, _, rfl, B.to (SameX.of s1), R1.to (km s1), hde, by omega, fun ku hu H' T' o' i e' B' so' s' l' hi ki => ?_, fun hu H' s' => kQ.2 (by rw [hu]; rfl) H' ((SameX.of s1).trans s')⟩
          rw [hu] at kQ
          have kQ' : KrQ P w K H' k T' o' 1 (some (War.K.list ku)) Q E := kQ.next e' so' ((SameX.of s1).trans s') (by omega)
          exact ⟨k, T', o', i, rfl, B', hi, by omega, numQ_of kQ' (by decide) fun T2 e2 => by
            show War.K.list (kAt T2 i) = _
            rw [e2.kAt hi, ki]⟩
  rw [decide_eq_false n1]
  refine iteF ?_
  refine ⟨_, rfl, one_leS, fun p2 hp2 => ?_⟩
  have s2 := s1.trans (same_upd (o := HO.tup [V.str "record"]) hp2)
  refine rd_tnames (a := nmsOf v) (b := [Sw.word "record"]) (SqT.of (same_upd hp2 _ _ (same_upd hp1 _ _ upd_same))) (SqT.of (by rw [upd_same, ← w_record]; rfl)) ⟨_, rfl, ?_⟩
  by_cases n2 : nmsOf v = [Sw.word "record"]
  · rw [decide_eq_true n2]
    refine iteT ?_
    obtain ⟨m, rfl, n2⟩ := nms_rec n2
    clear RB hx hnl hml mx mn mm
    obtain ⟨nl, ml, xs, RB, RW⟩ := R
    obtain ⟨⟨dx, ll, hx⟩, hnl, hml, mx, mn, mm⟩ := id RB
    cases m with
    | nil => cases n2
    | cons n u r =>
      cases r with
      | cons _ _ _ => cases n2
      | nil =>
        obtain rfl : n = Sw.word "record" := by injection n2
        cases xs with
        | nil => cases RW
        | cons x1 xs =>
          obtain ⟨R1, RW⟩ := RW
          have ek : War.toldKind (.rec_ (.cons (Sw.word "record") u .nil)) = recOf u := by
            rw [War.toldKind.eq_def]
            dsimp only
            rw [if_neg (show ¬ Sw.word "record" = Sw.word "list" by decide), if_pos rfl]
            cases u <;> rfl
          have hle : u.enc.length + 2 ≤ (Sw.Value.rec_ (.cons (Sw.word "record") u .nil)).enc.length := by
            rw [Sw.Value.enc, Sw.Row.enc, Sw.Row.enc, if_pos rfl]
            have : (Sw.word "record").length = 6 := rfl
            simp only [List.length_cons, List.length_append]
            omega
          have hde : u.deep ≤ d := by
            rw [Sw.Value.deep, Sw.Row.deep, Sw.Row.deep] at hd
            omega
          dsimp only [tRet, tCall, tCons, tNil, tOp]
          refine ⟨_, rfl, ?_⟩
          dsimp only [tCons, tNil, tOp]
          refine rdFld (i := 1) (by rfl) (s2 _ _ hx) T.RawC.cl (natR _ (by simp)) (RF.l_members _) ?_
          refine ⟨ml, _, 0, V.ref x1, rfl, rfl, SqL.of (s2 _ _ hml), (atI_nat (xs := V.ref x1 :: xs.map V.ref) (j := 0) rfl), ?_⟩
          rw [ek] at kQ
          exact ⟨k, x1, T0, o, u, _, rfl, B.to (SameX.of s2), R1.to (km s2), by omega, by omega, kQ.next (ExtT.refl _) ⟨rfl, rfl, rfl, rfl, rfl⟩ (SameX.of s2) (by omega)⟩
  rw [decide_eq_false n2]
  refine iteF ?_
  dsimp only [tAnd]
  refine ⟨_, rfl, two_leS, fun p3 hp3 => ?_⟩
  have s3 := s2.trans (same_upd (o := HO.tup [V.str "in", V.str "sort"]) hp3)
  refine rd_tnames (a := nmsOf v) (b := [Sw.word "in", Sw.word "sort"]) (SqT.of (same_upd hp3 _ _ (same_upd hp2 _ _ (same_upd hp1 _ _ upd_same)))) (SqT.of (by rw [upd_same, ← w_in_sort]; rfl)) ⟨_, rfl, ?_⟩
  by_cases n3 : nmsOf v = [Sw.word "in", Sw.word "sort"]
  · rw [decide_eq_true n3]
    refine iteT ?_
    obtain ⟨m, rfl, n3⟩ := nms_rec n3
    clear RB hx hnl hml mx mn mm
    obtain ⟨nl, ml, xs, RB, RW⟩ := R
    obtain ⟨⟨dx, ll, hx⟩, hnl, hml, mx, mn, mm⟩ := id RB
    cases m with
    | nil => cases n3
    | cons n u r =>
      cases r with
      | nil => cases n3
      | cons n' u2 r =>
        cases r with
        | cons _ _ _ => cases n3
        | nil =>
          obtain ⟨rfl, rfl⟩ : n = Sw.word "in" ∧ n' = Sw.word "sort" := by
            injection n3 with e1 e2
            injection e2 with e2 _
            exact ⟨e1, e2⟩
          cases xs with
          | nil => cases RW
          | cons x1 xs =>
            obtain ⟨R1, RW⟩ := RW
            cases xs with
            | nil => cases RW
            | cons x2 xs =>
              obtain ⟨R2, RW⟩ := RW
              cases xs with
              | cons _ _ => cases RW
              | nil =>
                obtain ⟨nl1, ml1, xs1, ⟨⟨dx1, ll1, hx1⟩, _⟩⟩ := rawT_b R1
                obtain ⟨nl2, ml2, xs2, ⟨⟨dx2, ll2, hx2⟩, _⟩⟩ := rawT_b R2
                have ek : War.toldKind (.rec_ (.cons (Sw.word "in") u (.cons (Sw.word "sort") u2 .nil))) = (match War.nameIn u, War.nameIn u2 with
                    | some a, some b => some (.sort a b)
                    | _, _ => none) := by
                  rw [War.toldKind.eq_def]
                  dsimp only
                  rw [if_pos ⟨rfl, rfl⟩]
                  rfl
                rw [nameIn_eq, nameIn_eq] at ek
                have hle : u.enc.length + u2.enc.length ≤ (Sw.Value.rec_ (.cons (Sw.word "in") u (.cons (Sw.word "sort") u2 .nil))).enc.length := by
                  rw [Sw.Value.enc, Sw.Row.enc, Sw.Row.enc, Sw.Row.enc, if_pos rfl]
                  simp only [List.length_cons, List.length_append]
                  omega
                have lu := textB_le u
                have lu2 := textB_le u2
                dsimp only [tB, tCall, tCons, tNil, tLc, iList]
                refine rdFld (i := 1) (by rfl) (s3 _ _ hx) T.RawC.cl (natR _ (by simp)) (RF.l_members _) ?_
                refine ⟨ml, rfl, ⟨_, SqL.of (s3 _ _ hml)⟩, ?_⟩
                intro D hD
                refine lc_list (xs := [V.ref x1, V.ref x2]) (fun i H' => Same H H' ∧ H' D = some (.lst ([V.str (spell (Rd.textB u)), V.str (spell (Rd.textB u2))].take i))) ⟨s3.trans (same_upd hD), upd_same⟩ (fun i H' _ q => SqL.of (q.1 _ _ hml)) ?_ ?_
                · rintro i y H' hy ⟨s', q⟩
                  have hz : ∀ {l : List V}, l.length ≤ 2 → l.length < sizeLine := fun h => by
                    rw [sizeLine_eq]
                    omega
                  have sD : ∀ {z : HO}, Same H (upd H' D z) := fun b u hb => by
                    rw [upd_ne (fun z => by have := s3 _ _ hb; rw [z, hD] at this; cases this)]
                    exact s' _ _ hb
                  match i, hy with
                  | 0, hy =>
                    obtain rfl : V.ref x1 = y := by simpa using hy
                    exact ⟨rfl, yesT (rdFld (i := 3) (by rfl) (s' _ _ hx1) T.RawC.cl (natR _ (by simp)) (RF.l_text _) ⟨_, q, hz (by simp), sD, upd_same⟩)⟩
                  | 1, hy =>
                    obtain rfl : V.ref x2 = y := by simpa using hy
                    exact ⟨rfl, yesT (rdFld (i := 3) (by rfl) (s' _ _ hx2) T.RawC.cl (natR _ (by simp)) (RF.l_text _) ⟨_, q, hz (by simp), sD, upd_same⟩)⟩
                  | i + 2, hy => simp at hy
                · rintro H' ⟨s', q⟩
                  refine ⟨D, [Rd.textB u, Rd.textB u2], rfl, SqL.of q, fun n hn => ?_, (by show 2 < 100000; decide), fun H4 s4 => ⟨_, rfl, ?_⟩⟩
                  · simp only [List.mem_cons, List.not_mem_nil, or_false] at hn
                    rcases hn with z | z <;> rw [z] <;> omega
                  have s4' := s'.trans s4
                  show if ([Rd.textB u, Rd.textB u2].all War.isName) = true then _ else _
                  rw [List.all_cons, List.all_cons, List.all_nil, Bool.and_true]
                  cases i1 : War.isName (Rd.textB u) with
                  | false =>
                    rw [i1] at ek
                    exact iteF (none_ s4' ek)
                  | true =>
                    cases i2 : War.isName (Rd.textB u2) with
                    | false =>
                      rw [i1, i2] at ek
                      exact iteF (none_ s4' ek)
                    | true =>
                      rw [i1, i2] at ek
                      refine iteT ?_
                      dsimp only [tRet, tCons, tNil]
                      refine ⟨_, rfl, k, dk, _, rfl, s4' _ _ hk, o.l_sort_named, ?_⟩
                      dsimp only [tCons, tNil]
                      refine rdMemText T (j := 0) (by rfl) (s4' _ _ hx) (s4' _ _ hml) rfl (s4' _ _ hx1) ?_
                      refine rdMemText T (j := 1) (by rfl) (s4' _ _ hx) (s4' _ _ hml) rfl (s4' _ _ hx2) ?_
                      rw [ek] at kQ
                      exact ⟨k, T0, o, Rd.textB u, Rd.textB u2, rfl, B.to (SameX.of s4'), by omega, numQ_of (kQ.next (ExtT.refl _) ⟨rfl, rfl, rfl, rfl, rfl⟩ (SameX.of s4') (Nat.le_refl _)) (Rd.enc_pos _) fun T' _ => rfl⟩
  rw [decide_eq_false n3]
  exact iteF (iteF (none_ s3 (told_no hn0 n1 n2 n3)))
end
end Hs
end
section
set_option Elab.async false
set_option linter.all false
set_option maxRecDepth 100000
set_option maxHeartbeats 4000000
namespace Hs
open PySem PySem.Spec PyProof.Rows L2 Kt Nest Tl
section
variable {P : Program} {w : World} {K : PySem.W.Frag} {mg : Str → Option Value} {base : Heap}
theorem names_le : ∀ (m : Sw.Row) {n : Sw.Bytes}, n ∈ m.names → n.length ≤ (m.enc true).length
  | .nil, n, h => by cases h
  | .cons n v m, x, h => by
    rw [Sw.Row.enc, if_pos rfl]
    simp only [List.length_append]
    rcases List.mem_cons.mp (show x ∈ n :: m.names from h) with z | z
    · rw [z]; omega
    · have := names_le m z; omega
theorem names_len : ∀ m : Sw.Row, m.names.length = m.length
  | .nil => rfl
  | .cons n v m => congrArg (· + 1) (names_len m)
theorem values_len : ∀ m : Sw.Row, m.values.length = m.length
  | .nil => rfl
  | .cons n v m => congrArg (· + 1) (values_len m)
def encs (l : List Sw.Value) : Nat := (l.map fun v => v.enc.length).sum
theorem encs_le : ∀ m : Sw.Row, encs m.values ≤ (m.enc true).length
  | .nil => Nat.zero_le _
  | .cons n v m => by
    have := encs_le m
    rw [Sw.Row.enc, if_pos rfl]
    simp only [List.length_append]
    show v.enc.length + encs m.values ≤ _
    omega
theorem encs_snoc (l : List Sw.Value) (v : Sw.Value) : encs (l ++ [v]) = encs l + v.enc.length := by
  unfold encs
  rw [List.map_append, List.sum_append]
  simp
theorem encs_take (l : List Sw.Value) (i : Nat) : encs (l.take i) ≤ encs l := by
  have e : encs l = encs (l.take i) + encs (l.drop i) := by
    unfold encs
    rw [← List.sum_append, ← List.map_append, List.take_append_drop]
  omega
/-- what stands for a value's told kind, that is one -/
def ResS (T : List Rw) (v : Sw.Value) (r : V) : Prop := ∃ kd, ∃ i : Nat, War.toldKind v = some kd ∧ r = V.int (i : Int) ∧ i < T.length ∧ kAt T i = kd
theorem ResS.ext {T T' : List Rw} (e : ExtT T T') {v : Sw.Value} {r : V} (h : ResS T v r) : ResS T' v r := by
  obtain ⟨kd, i, e1, e2, e3, e4⟩ := h
  exact ⟨kd, i, e1, e2, Nat.lt_of_lt_of_le e3 e.len, by rw [e.kAt e3, e4]⟩
theorem all2s_ext {T T' : List Rw} (e : ExtT T T') {l : List Sw.Value} {rs : List V} (h : All2 (ResS T) l rs) : All2 (ResS T') l rs := by
  induction h with
  | nil => exact .nil
  | cons h t ih => exact .cons (h.ext e) ih
theorem toldRow_cons (n : Sw.Bytes) (v : Sw.Value) (m : Sw.Row) : War.toldRow (.cons n v m) = match War.toldKind v with
    | none => none
    | some k => (War.toldRow m).map fun (l : War.KRow) => .cons n k l := by rw [War.toldRow.eq_def]; rfl
theorem row_some {T : List Rw} : ∀ (m : Sw.Row) {rs : List V}, All2 (ResS T) m.values rs → ∃ ps : List Nat, rs = ps.map (fun (p : Nat) => V.int ((p : Nat) : Int)) ∧ (∀ p ∈ ps, p < T.length) ∧ War.toldRow m = some (rowOf m.names (ps.map (kAt T))) ∧ m.names.length = ps.length
  | .nil, rs, h => by
    have h' : All2 (ResS T) [] rs := h
    cases h'
    exact ⟨[], rfl, (fun p hp => by cases hp), by rw [War.toldRow]; rfl, rfl⟩
  | .cons n v m, rs, h => by
    have h' : All2 (ResS T) (v :: m.values) rs := h
    cases h' with
    | cons q t =>
      rename_i r rs
      obtain ⟨ps, a1, a2, a3, a4⟩ := row_some m t
      obtain ⟨kd, i, e1, e2, e3, e4⟩ := q
      refine ⟨i :: ps, by rw [a1, e2]; rfl, fun p hp => ?_, ?_, ?_⟩
      · rcases List.mem_cons.mp hp with z | z
        · rw [z]; exact e3
        · exact a2 p z
      · rw [toldRow_cons, e1, a3, ← e4]
        rfl
      · show m.names.length + 1 = ps.length + 1
        rw [a4]
theorem row_none : ∀ (m : Sw.Row) {i : Nat} {v : Sw.Value}, m.values[i]? = some v → War.toldKind v = none → War.toldRow m = none
  | .nil, i, v, h, _ => by
    have h' : ([] : List Sw.Value)[i]? = some v := h
    simp at h'
  | .cons n u m, 0, v, h, hn => by
    obtain rfl : u = v := by
      have h' : (u :: m.values)[0]? = some v := h
      simpa using h'
    rw [toldRow_cons, hn]
  | .cons n u m, i + 1, v, h, hn => by
    have h' : (u :: m.values)[i + 1]? = some v := h
    rw [toldRow_cons, row_none m (i := i) (by simpa using h') hn]
    cases War.toldKind u <;> rfl
theorem ok_rr (T : TRd K mg) (T1 : TKd K mg) (T2 : TTk K mg) (T3 : TKr K mg) (N : NtkT K mg) (hKw : TupT K mg "KEYWORDS" (kwS.map V.str)) {d l : Nat} (hl : 4 ≤ l)
    (GK : FnOk P w K mg base (L2.CX P w) l (ga K "read_kind") (fdA K (ga K "read_kind")) ["kinds", "raw"] (spKr P w K d)) : FnOk P w K mg base (L2.CX P w) (l + 1) (ga K "read_record") (fdA K (ga K "read_record")) ["kinds", "raw"] (spRr P w K d) := by
  have bK := b_read_kind T3.read_kind.f
  have GO : FnOk P w K mg base CX0 2 (ma K "Kinds" "record_of") (fdA K (ma K "Kinds" "record_of")) ["self", "names", "parts"] (spRecordOf P w K) := ok_record_of T1
  have bO := b_Kinds_record_of T1.record_of.f
  have GA : FnOk P w K mg base CX0 3 (ga K "all_names") (fdA K (ga K "all_names")) ["texts"] (spAllNames K) := ok_all_names T2 T3 hKw
  have bA := b_all_names T3.all_names.f
  refine T3.read_record.f.okX sc_read_record (fun vs H Q E h => by obtain ⟨_, _, _, _, _, _, rfl, _⟩ := h; rfl) (fun cdv A outer s H vs Q E hr h => ⟨_,
    (pss_cons (ps_if (PW.pt (pw_or (pt_cmpR op_ne (pe_fld (pv 1) rfl) (pe_intT T.RECORD) (nomark _)) (pw_or1 (pt_not (pt_val (pe_call GA (hr.mono (by omega)) rfl T3.all_names.g T3.all_names.kp bA .nil pass0 (pa_cons (pe_fld (pv 1) rfl) pa_nil)))))))
      (pss_one (ps_raiseNtk (W := tkE E) rfl N (takes_of rfl rfl rfl rfl))) pss_nil)
    (pss_one (ps_ret (pe_meth (pv 0) T1.C.cl T1.record_of.me GO (hr.mono (by omega)) bO .nil pass0 (pa_cons (pe_fld (pv 1) rfl) (pa_cons
      (pe_lcX (W := tkE E) (own := [("member", 2)]) (g := gName 2) (tt := tYes) (te := fun W => tCallS (spKr P w K d) (WE W) (tCons (tVar 0) (tCons (tVar 2) tNil))) rfl sc_read_record.nd rfl rfl (takes_of rfl rfl rfl rfl)
        (pi_list (pe_fld (pv 1) rfl)) (blkOk_by (N := N_read_record) (sc := defScope s_read_record) (by decide +kernel)) (fun _ _ _ _ _ => pg_name (i := 2) sc_read_record.nd rfl (Or.inl rfl)) (fun _ _ _ _ _ => pts_nil)
        (fun _ _ _ _ _ _ _ hx => by exact (pe_callS GK (hr.mono (by omega)) rfl T3.read_kind.g T3.read_kind.kp bK hx (pa_cons (pv 0) (pa_cons (pv 2) pa_nil))))) pa_nil)))))), ?_⟩)
  obtain ⟨k, x, T0, o, v, p, rfl, B, R, hd, hb, kQ⟩ := h
  obtain ⟨nl, ml, xs, RB⟩ := rawT_b R
  obtain ⟨⟨dx, ll, hx⟩, hnl, hml, mx, mn, mm⟩ := id RB
  obtain ⟨⟨dk, hk⟩, _⟩ := id B
  have natR := fun f h => T.rawN f h
  have none_ : ∀ {H'}, SameX [o.ra, o.na, o.ha] H H' → recOf v = none → E (.ref (CN K)) none H' := fun s hn => kQ.2 hn _ s
  dsimp only [cxOf, tSeq, tIfS, tTest, tOp, tOr, tNot]
  refine rdFld (i := 1) (by rfl) hx T.RawC.cl (natR _ (by simp)) (RF.l_kind _) ?_
  refine ⟨rfl, _, rfl, ?_⟩
  rw [show decide (V.int ((rfV v p nl ml ll).kind : Int) = V.int 6) = decide (v.kind = 6) from dec_nat v.kind 6]
  by_cases h6 : v.kind = 6
  · rw [decide_eq_true h6]
    refine iteF ?_
    obtain ⟨m, rfl⟩ : ∃ m, v = .rec_ m := by
      cases v with
      | rec_ m => exact ⟨m, rfl⟩
      | _ => cases h6
    clear RB hx hnl hml mx mn mm
    obtain ⟨nl, ml, xs, RB, RW⟩ := R
    obtain ⟨⟨dx, ll, hx⟩, hnl, hml, mx, mn, mm⟩ := id RB
    have hnl' : H nl = some (.lst ((m.names.map spell).map V.str)) := by rw [← nmV_names]; exact hnl
    dsimp only [tB, tCall, tCons, tNil]
    refine rdFld (i := 1) (by rfl) hx T.RawC.cl (natR _ (by simp)) (RF.l_names _) ?_
    have henc : (m.enc true).length + 1 ≤ (Sw.Value.rec_ m).enc.length := by
      rw [Sw.Value.enc]
      simp only [List.length_cons, List.length_append]
      omega
    have hes := encs_le m
    have hvl := values_len m
    have hnm := names_len m
    have hrl := Rd.row_len_enc true m
    refine ⟨nl, m.names, rfl, SqL.of hnl', fun n hn => by have := names_le m hn; omega, by omega, fun H1 s1 => ⟨_, rfl, ?_⟩⟩
    show if (!(m.names.all War.isName)) = true then _ else _
    have S1 := SameX.of (S := [o.ra, o.na, o.ha]) s1
    cases hall : m.names.all War.isName with
    | false =>
      refine iteT (none_ S1 ?_)
      unfold recOf
      dsimp only
      rw [hall]
      rfl
    | true =>
      refine iteF ?_
      dsimp only [tNext, tRet, tCons, tNil]
      refine ⟨_, rfl, k, dk, _, rfl, s1 _ _ hk, o.l_record_of, ?_⟩
      dsimp only [tCons, tNil]
      refine rdFld (i := 1) (by rfl) (s1 _ _ hx) T.RawC.cl (natR _ (by simp)) (RF.l_names _) ?_
      dsimp only [tLcX, tLc, iList]
      refine rdFld (i := 1) (by rfl) (s1 _ _ hx) T.RawC.cl (natR _ (by simp)) (RF.l_members _) ?_
      refine ⟨ml, rfl, ⟨_, SqL.of (s1 _ _ hml)⟩, ?_⟩
      intro D2 hD2
      have xl := rowT_len RW
      have km : ∀ {H1 o1}, o.sameAs o1 → SameX [o.ra, o.na, o.ha] H H1 → Keeps [o.ra, o.na, o.ha, o.ga] [o1.ra, o1.na, o1.ha, o1.ga] H H1 := fun so s => by
        obtain ⟨a1, a2, a3, a4, a5⟩ := so
        rw [a1, a2, a3, a5]
        exact fun a u ha hm => ⟨s _ _ (fun q => hm (by simp only [List.mem_cons, List.not_mem_nil, or_false] at q ⊢; rcases q with q | q | q <;> simp [q])) ha, hm⟩
      have dn : ∀ a ∈ [o.ra, o.na, o.ha], a ≠ D2 := fun a ha z => by
        have h1 : ∃ u, H a = some u := by
          simp only [List.mem_cons, List.not_mem_nil, or_false] at ha
          rcases ha with e | e | e
          · rw [e]; exact ⟨_, B.rows⟩
          · rw [e]; exact ⟨_, B.nums⟩
          · rw [e]; exact ⟨_, B.hol⟩
        obtain ⟨u, hu⟩ := h1
        have := s1 _ _ hu
        rw [z, hD2] at this
        cases this
      have hdm : m.deep ≤ d := by
        rw [Sw.Value.deep] at hd
        omega
      have er : recOf (.rec_ m) = (War.toldRow m).map War.K.record := by
        unfold recOf
        dsimp only
        rw [if_pos hall]
      refine lc_list (xs := xs.map V.ref) (fun i H2 => ∃ T' o' rs, ExtT T0 T' ∧ KTab P w K H2 k T' o' ∧ o.sameAs o' ∧ SameX [o.ra, o.na, o.ha] H H2 ∧ H2 D2 = some (.lst rs) ∧ All2 (ResS T') (m.values.take i) rs ∧ T'.length ≤ T0.length + encs (m.values.take i))
        ⟨T0, o, [], ExtT.refl _, B.to (SameX.of (s1.trans (same_upd hD2))), ⟨rfl, rfl, rfl, rfl, rfl⟩, S1.trans (SameX.of (same_upd hD2)), upd_same, .nil, Nat.le_add_right _ _⟩ ?_ ?_ ?_
      · rintro i H2 _ ⟨T', o', rs, _, _, so, sx, _, _⟩
        exact SqL.of (km so sx _ _ hml mm).1
      · rintro i y H2 hy ⟨T', o', rs, e, B', so, sx, hd2, ha2, hl2⟩
        rw [List.getElem?_map] at hy
        obtain ⟨x1, hx1, rfl⟩ := Option.map_eq_some_iff.mp hy
        obtain ⟨v1, q', e1, R1, de⟩ := rowT_get RW hx1
        have est : encs (m.values.take (i + 1)) = encs (m.values.take i) + v1.enc.length := by rw [List.take_add_one, e1]; exact encs_snoc _ _
        have ele := encs_take m.values (i + 1)
        refine ⟨rfl, yesT ⟨_, rfl, _, rfl, k, x1, T', o', v1, q', rfl, B', R1.to (km so sx), by omega, by omega, fun kd hkd H3 T3 o3 j e3 B3 so3 s3 l3 hj hkj => ?_, fun hn H3 s3 => none_ (sx.trans (so.x s3)) (by rw [er, row_none m e1 hn]; rfl)⟩⟩
        have dn' : D2 ∉ [o'.ra, o'.na, o'.ha] := by
          obtain ⟨a1, a2, a3, a4, a5⟩ := so
          rw [a1, a2, a3]
          exact fun z => dn D2 z rfl
        have hd3 := s3 _ _ dn' hd2
        have rl : rs.length ≤ m.length := by
          have := ha2.len
          rw [List.length_take] at this
          omega
        have so' := so.trans so3
        obtain ⟨c1, c2, c3, c4, c5⟩ := id so'
        refine ⟨rs, hd3, by rw [sizeLine_eq]; omega, T3, o3, rs ++ [V.int (j : Int)], e.trans e3, ?_, so', ?_, upd_same, ?_, by omega⟩
        · obtain ⟨⟨dk3, hk3⟩, _⟩ := id B3
          exact B3.toX (samex_upd (by simp)) (ne_of hk3 hd3 (fun z => nomatch z)) (by rw [c1]; exact dn _ (by simp)) (by rw [c2]; exact dn _ (by simp)) (by rw [c3]; exact dn _ (by simp)) (fun v z => by rw [hd3] at z; cases z)
        · intro b u nb hb
          rw [upd_ne (fun z => by
            have := s1 _ _ hb
            rw [z, hD2] at this
            cases this)]
          exact (so.x s3) _ _ nb (sx _ _ nb hb)
        · rw [List.take_add_one, e1]
          exact all2_snoc (all2s_ext e3 ha2) ⟨kd, j, hkd, rfl, hj, hkj⟩
      · rintro H2 ⟨T', o', rs, e, B', so, sx, hd2, ha2, hl2⟩
        rw [List.length_map, xl, ← hvl, List.take_length] at ha2 hl2
        obtain ⟨ps, ep, plt, hn, pl⟩ := row_some m ha2
        subst ep
        rw [er, hn] at kQ
        have kQ' : KrQ P w K H2 k T' o' 1 (some (War.K.record (rowOf m.names (ps.map (kAt T'))))) Q E := kQ.next e so sx (by omega)
        have kn := (km so sx _ _ hnl' mn).1
        refine ⟨k, nl, D2, T', o', m.names, ps, rfl, B', SqL.of kn, SqL.of hd2, pl, plt, by omega, by omega, numQ_of kQ' (by decide) fun T2 e2 => ?_⟩
        show War.K.record (rowOf m.names (ps.map (kAt T2))) = _
        rw [List.map_congr_left fun q hq => e2.kAt (plt q hq)]
  · rw [decide_eq_false h6]
    exact iteT (iteT (none_ (SameX.refl _ _) (by cases v <;> first | rfl | exact absurd rfl h6)))
end
end Hs
end
section
set_option Elab.async false
set_option linter.all false
set_option maxRecDepth 100000
set_option maxHeartbeats 2000000
namespace Hs
open PySem PySem.Spec PyProof.Rows L2 Kt Nest Tl
section
variable {P : Program} {w : World} {K : PySem.W.Frag} {mg : Str → Option Value} {base : Heap}
theorem deep_pos (v : Sw.Value) : 0 < v.deep := by
  cases v <;> rw [Sw.Value.deep] <;> first | omega | simp
theorem rk_all {T : TRd K mg} (T1 : TKd K mg) (T2 : TTk K mg) (T3 : TKr K mg) (N : NtkT K mg) (hPl : TupT K mg "PLAIN_KINDS" (T7.map fun r => V.str (formS r))) (hKw : TupT K mg "KEYWORDS" (kwS.map V.str)) :
    ∀ d : Nat, FnOk P w K mg base (L2.CX P w) (2 * d + 4) (ga K "read_kind") (fdA K (ga K "read_kind")) ["kinds", "raw"] (spKr P w K d)
  | 0 => ⟨fun vs H Q E h => by obtain ⟨_, _, _, _, _, _, rfl, _⟩ := h; rfl, fun A outer s H args us vs Q E hr he hb hv hs => by
      obtain ⟨_, _, _, _, v, _, _, _, _, hd, _⟩ := hs
      have := deep_pos v
      omega⟩
  | d + 1 => by
    have ih := rk_all (T := T) T1 T2 T3 N hPl hKw d
    exact ok_rk T T1 T2 T3 N hPl hKw (by omega) ih (ok_rr T T1 T2 T3 N hKw (by omega) ih)
theorem ok_read_kind {T : TRd K mg} (T1 : TKd K mg) (T2 : TTk K mg) (T3 : TKr K mg) (N : NtkT K mg) (hPl : TupT K mg "PLAIN_KINDS" (T7.map fun r => V.str (formS r))) (hKw : TupT K mg "KEYWORDS" (kwS.map V.str)) :
    FnOk P w K mg base (L2.CX P w) 132 (ga K "read_kind") (fdA K (ga K "read_kind")) ["kinds", "raw"] (spKr P w K 64) := rk_all (T := T) T1 T2 T3 N hPl hKw 64
end
end Hs
end
section
set_option Elab.async false
set_option linter.all false
set_option maxRecDepth 100000
set_option maxHeartbeats 2000000
/-! A list of ours out of sight while an expression is evaluated: what the expression makes is none of it. Written for spec 167. -/
namespace L2
open PySem PySem.Spec PyProof.Rows
section
variable {X : Cx} {pins : List (Addr × Obj)} {σ : St} {H : Hp} {s : Shared}
theorem Inv.hide (I : Inv X pins σ H s) {D : Addr} {xs : List V} (hD : H D = some (.lst xs)) : ∃ o, s.heap.get? D = some o ∧ Inv X (pins ++ [(D, o)]) σ (delH H D) s ∧
    ∀ (H' : Hp) (s' : Shared), Inv X (pins ++ [(D, o)]) σ H' s' → H' D = none ∧ Inv X pins σ (upd H' D (.lst xs)) s' := by
  obtain ⟨z, its, n, r, e⟩ := id (I.hok D _ hD)
  obtain ⟨oD, ho⟩ : ∃ oD : Obj, oD = { cls := .type "list", data := .seq its.toArray n } := ⟨_, rfl⟩
  rw [← ho] at e
  have nb : ∀ {b : Addr} {u : HO}, H b = some u → (∀ l, u ≠ .lst l) → b ≠ D := fun hb hu q => by
    rw [q, hD] at hb
    injection hb with hb
    exact hu _ hb.symm
  have nn : ∀ {b : Addr}, H b = none → b ≠ D := fun hb q => by rw [q, hD] at hb; cases hb
  have nfs : D ∉ X.fs := fun hm => by
    have hm' : D ∈ frs X.stack := by
      rcases I.ok.stk with q | ⟨q, hf⟩
      · rw [q]; exact hm
      · rw [q]
        show D ∈ List.filterMap (·.frame) (X.env :: X.outer)
        rw [List.filterMap_cons, hf]
        exact List.mem_cons_of_mem _ hm
    have q := I.stkFree D hm'
    rw [hD] at q; cases q
  refine ⟨oD, e, ⟨I.ok, I.os, I.bare, ⟨I.base.keep, I.base.slot, fun b o g n hx => ?_, I.base.there, fun b l g => ?_, fun b o u g => ?_, fun b ps g => ?_⟩, I.loc, I.cell, ?_, fun x c g => ?_, fun p hp => ?_, fun b u g => ?_, I.len⟩, fun H' s' J => ?_⟩
  · have q := I.base.free b o g n hx
    rw [delH_ne (nn q)]; exact q
  · have q := I.base.tups b l g
    rw [delH_ne (nb q (fun _ h => by cases h))]; exact q
  · have q := I.base.frzs b o u g
    rw [delH_ne (nb q (fun _ h => by cases h))]; exact q
  · obtain ⟨more, q⟩ := I.base.tbls b ps g
    exact ⟨more, by rw [delH_ne (nb q (fun _ h => by cases h))]; exact q⟩
  · rw [delH_ne (nn I.free)]; exact I.free
  · rw [delH_ne (nn (I.freeC x c g))]; exact I.freeC x c g
  · have old : p ∈ X.pn ++ pins → _ := I.pin p
    rw [← List.append_assoc] at hp
    rcases List.mem_append.mp hp with hp | hp
    · obtain ⟨g1, g2, g3⟩ := I.pin p hp
      exact ⟨g1, by rw [delH_ne (nn g2)]; exact g2, g3⟩
    · have q : p = (D, oD) := by simpa using hp
      rw [q]
      exact ⟨e, delH_same, fun q => nn I.free q.symm, nfs, fun v q => by rw [ho] at q; cases q⟩
  · have hb : b ≠ D := fun q => by rw [q, delH_same] at g; cases g
    rw [delH_ne hb] at g
    exact (I.hok b u g).stay (fun _ _ _ q => q) (fun c q => by rw [delH_ne (nb q (fun _ h => by cases h))]; exact q) fun c l q => by rw [delH_ne (nb q (fun _ h => by cases h))]; exact q
  · obtain ⟨g1, g2, g3⟩ := J.pin (D, oD) (List.mem_append_right _ (List.mem_append_right _ List.mem_cons_self))
    have g1 : s'.heap.get? D = some oD := g1
    have g2 : H' D = none := g2
    have mb : ∀ {b : Addr} {u : HO}, H' b = some u → b ≠ D := fun hb q => by rw [q, g2] at hb; cases hb
    have keep : ∀ {b : Addr} {u : HO}, H' b = some u → upd H' D (.lst xs) b = some u := fun hb => by rw [upd_ne (mb hb)]; exact hb
    refine ⟨g2, ⟨J.ok, J.os, J.bare, ⟨J.base.keep, J.base.slot, fun b o g n hx => ?_, J.base.there, fun b l g => keep (J.base.tups b l g), fun b o u g => keep (J.base.frzs b o u g), fun b ps g => ?_⟩, J.loc, J.cell, ?_, fun x c g => ?_, fun p hp => ?_, fun b u g => ?_, J.len⟩⟩
    · rw [upd_ne (nn (I.base.free b o g n hx))]
      exact J.base.free b o g n hx
    · obtain ⟨more, q⟩ := J.base.tbls b ps g
      exact ⟨more, keep q⟩
    · rw [upd_ne (nn I.free)]; exact J.free
    · rw [upd_ne (nn (I.freeC x c g))]; exact J.freeC x c g
    · obtain ⟨h1, h2, h3⟩ := J.pin p (by rw [← List.append_assoc]; exact List.mem_append_left _ hp)
      exact ⟨h1, by rw [upd_ne (nn (I.pin p hp).2.1)]; exact h2, h3⟩
    · by_cases hb : b = D
      · subst hb
        rw [upd_same] at g
        injection g with g
        subst g
        exact ⟨z, its, n, r, by rw [← ho]; exact g1⟩
      · rw [upd_ne hb] at g
        exact (J.hok b u g).stay (fun _ _ _ q => q) (fun c q => keep q) fun c l q => keep q
/-- an expression evaluated while the list D is out of sight -/
def tHide (t : TE) : TE := fun σ H Q => ∃ D xs, H D = some (.lst xs) ∧ t σ (delH H D) fun v H' => H' D = none → Q v (upd H' D (.lst xs))
theorem pe_hide {e : Expr} {t : TE} (he : PE X e t) : PE X e (tHide t) := by
  refine ⟨fun pins s σ H Q I h => ?_⟩
  obtain ⟨D, xs, hD, h⟩ := h
  obtain ⟨o, ho, J, back⟩ := I.hide hD
  refine wpAny_mono (he.run _ s σ _ _ J h) (fun u s' hu => ?_) fun _ _ x => x
  obtain ⟨v, H', J', r, q⟩ := hu
  obtain ⟨g, K'⟩ := back H' s' J'
  exact ⟨v, _, K', r, q g⟩
end
end L2
end
section
set_option Elab.async false
set_option linter.all false
set_option maxRecDepth 100000
set_option maxHeartbeats 4000000
namespace Hs
open PySem PySem.Spec PyProof.Rows L2 Kt Nest Tl
structure TDk (K : PySem.W.Frag) (mg : Str → Option Value) : Prop where
  rd : TRd K mg
  tl : TTl K mg
  tk : TTk K mg
  kr : TKr K mg
  agree : FnT K mg "agree" s_agree
  LONGEST_VALUE : IntT mg "LONGEST_VALUE" 16777216
  len : mg "len" = none
section
variable {P : Program} {w : World} {K : PySem.W.Frag} {mg : Str → Option Value} {base : Heap}
def spDesk (K : PySem.W.Frag) : Sp := fun vs H Q _ => ∃ (aA bA : Addr) (a b : Sw.Bytes), vs = [.ref aA, .ref bA] ∧ TrL H aA (byV a) ∧ TrL H bA (byV b) ∧ a.length ≤ 8192 ∧ b.length ≤ 8192 ∧
  ∀ (H' : Hp) (p : Addr), Same H H' → H' p = some (.lst ((PyYqswja.agree (toInts a) (toInts b)).map V.int)) → Q (.ref p) H'
theorem ok_desk (T : TDk K mg) (N : NtkT K mg) (hPl : TupT K mg "PLAIN_KINDS" (T7.map fun r => V.str (formS r))) (hKw : TupT K mg "KEYWORDS" (kwS.map V.str)) : FnOk P w K mg base CX0 140 (ga K "agree") (fdA K (ga K "agree")) ["a", "b"] (spDesk K) := by
  have GK : FnOk P w K mg base (L2.CX P w) 132 (ga K "read_kind") (fdA K (ga K "read_kind")) ["kinds", "raw"] (spKr P w K 64) := ok_read_kind (T := T.rd) T.tl.kd T.tk T.kr N hPl hKw
  have bK := b_read_kind T.kr.read_kind.f
  have GR : FnOk P w K mg base (L2.CX P w) 6 (ga K "read_value") (fdA K (ga K "read_value")) ["codes"] (spReadValue K) := ok_read_value T.rd
  have bR := b_read_value T.rd.read_value.f
  have GI : FnOk P w K mg base CX0 2 (ma K "Kinds" "__init__") (fdA K (ma K "Kinds" "__init__")) ["self"] (spKInit P w K) := ok_kInit T.tl.kd hPl
  have bI := b_Kinds___init__ T.tl.kd.I.f
  have GA : FnOk P w K mg base CX0 4 (ma K "Kinds" "agree") (fdA K (ma K "Kinds" "agree")) ["self", "one", "other"] (spAgree P w K) := ok_agree T.tl.kd
  have bA := b_Kinds_agree T.tl.kd.agree.f
  have GT : FnOk P w K mg base CX0 6 (ga K "kind_told") (fdA K (ga K "kind_told")) ["kinds", "kind"] (spTold P w K) := ok_kind_told T.tl
  have bT := b_kind_told T.tl.kind_told.f
  refine T.agree.f.ok sc_agree (fun vs H Q E h => by obtain ⟨_, _, _, _, rfl, _⟩ := h; rfl) (fun cdv A outer s H vs Q E hr h => ⟨_, PSs.nox
    (pss_cons (ps_if (PW.pt (pw_or (pt_cmpR op_gt (pe_callB call_len_seq (by rfl) T.len PySem.boot_len (pa_cons (pv 0) pa_nil)) (pe_intT T.LONGEST_VALUE) (nomark _)) (pw_or1 (pt_cmpR op_gt (pe_callB call_len_seq (by rfl) T.len PySem.boot_len (pa_cons (pv 1) pa_nil)) (pe_intT T.LONGEST_VALUE) (nomark _)))))
      (pss_one (ps_ret (pe_lst (pa_cons (pe_un un_neg pe_int) pa_nil)))) pss_nil)
    (pss_cons (ps_set (i := 2) sc_agree.nd rfl (Or.inr rfl) (by exact (pe_make0 T.tl.kd.C.mkr GI (hr.mono (by decide)) rfl T.tl.kd.C.g bI .nil pass0)))
    (pss_cons (ps_try_many (tb := fun W => tSeq (tAsg (tLcX (iTup K (tTup (tCons (tVar 0) (tCons (tVar 1) tNil)))) (gName 7) tYes (fun W => tHide (tCallS (spReadValue K) (WE W) (tCons (tVar 7) tNil))) W [7]) (gName 3))
          (tAsg (tLcX (iList K (tVar 3)) (gName 8) tYes (fun W => tCallS (spKr P w K 64) (WE W) (tCons (tVar 2) (tCons (tVar 8) tNil))) W [8]) (gLst K 2 (gCons (gName 4) (gCons (gName 5) gNil)))))
        (l := [(.ref (CF K), fun _ _ _ => tRet (tLst (tCons (tUn (rU fun i => .int (-i)) (tC (.int 6))) tNil))), (.ref (CN K), fun _ _ _ => tRet (tLst (tCons (tUn (rU fun i => .int (-i)) (tC (.int 5))) tNil)))]) (Wout := fun _ _ _ _ => False) rfl rfl takes_none5
      (fun W pn xe tk _ => pss_cons (ps_setLcX (W := W) (i := 3) (own := [("codes", 7)]) (g := gName 7) (tt := tYes) (te := fun W => tHide (tCallS (spReadValue K) (WE W) (tCons (tVar 7) tNil))) rfl sc_agree.nd rfl rfl tk rfl rfl (sw_true rfl rfl rfl (by decide +kernel))
          (by exact (pi_tup (pe_tup (pa_cons (pv 0) (pa_cons (pv 1) pa_nil))))) (blkOk_by (N := N_agree) (sc := defScope s_agree) (by decide +kernel)) (fun _ _ _ _ _ => by exact (pg_name (i := 7) sc_agree.nd rfl (Or.inl rfl))) (fun _ _ _ _ _ => pts_nil)
          (fun _ _ _ _ _ _ _ hx => by exact (pe_hide (pe_callS GR (hr.mono (by decide)) rfl T.rd.read_value.g T.rd.read_value.kp bR hx (by exact (pa_cons (pv 7) pa_nil))))))
        (pss_one (ps_asg (by exact (pe_lcX (W := W) (own := [("value", 8)]) (g := gName 8) (tt := tYes) (te := fun W => tCallS (spKr P w K 64) (WE W) (tCons (tVar 2) (tCons (tVar 8) tNil))) rfl sc_agree.nd rfl rfl tk
          (by exact (pi_list (pv 3))) (blkOk_by (N := N_agree) (sc := defScope s_agree) (by decide +kernel)) (fun _ _ _ _ _ => by exact (pg_name (i := 8) sc_agree.nd rfl (Or.inl rfl))) (fun _ _ _ _ _ => pts_nil)
          (fun _ _ _ _ _ _ _ hx => by exact (pe_callS GK (hr.mono (by decide)) rfl T.kr.read_kind.g T.kr.read_kind.kp bK hx (by exact (pa_cons (pv 2) (pa_cons (pv 8) pa_nil)))))))
          (by exact (pg_lst rfl (pgs_cons (pg_name (i := 4) sc_agree.nd rfl (Or.inl rfl)) (pgs_cons (pg_name (i := 5) sc_agree.nd rfl (Or.inl rfl)) pgs_nil)))))))
      (.cons ⟨rfl, by decide, Or.inl T.rd.fa.flt.gC⟩ (fun a oe cls d pn hz hf => pss_one (ps_ret (by exact (pe_lst (pa_cons (pe_un un_neg pe_int) pa_nil)))))
        (.cons ⟨rfl, by decide, Or.inl N.gC⟩ (fun a oe cls d pn hz hf => pss_one (ps_ret (by exact (pe_lst (pa_cons (pe_un un_neg pe_int) pa_nil))))) .nil)))
    (pss_cons (ps_set (i := 6) sc_agree.nd rfl (Or.inl rfl) (pe_meth (pv 2) T.tl.kd.C.cl T.tl.kd.agree.me GA (hr.mono (by decide)) bA .nil pass0 (pa_cons (pv 4) (pa_cons (pv 5) pa_nil))))
    (pss_cons (ps_if (pt_cmpR op_isN (pv 6) pe_non (by rfl)) (pss_one (ps_ret (pe_lst (pa_cons (pe_un un_neg pe_int) pa_nil)))) pss_nil)
    (pss_one (ps_ret (pe_op op_cat (pe_lst (pa_cons pe_int pa_nil)) (pe_call GT (hr.mono (by decide)) rfl T.tl.kind_told.g T.tl.kind_told.kp bT .nil pass0 (pa_cons (pv 2) (pa_cons (pv 6) pa_nil)))))))))))
    , ?_⟩)
  obtain ⟨aA, bA', a, b, rfl, ha, hb, la, lb, kQ⟩ := h
  dsimp only [cxOf, Cx.nox]
  dsimp only [tSeq, tIfS, tOr, tTest, tOp, tCB, tCons, tNil, tVar]
  have hla : ((byV a).length : Int) ≤ 8192 := by rw [byV_len]; omega
  have hlb : ((byV b).length : Int) ≤ 8192 := by rw [byV_len]; omega
  refine ⟨_, rfl, _, _, rfl, .inl ha.seq, _, _, rfl, rfl, _, rfl, ?_⟩
  rw [decide_eq_false (show ¬ ((16777216 : Int) < ((byV a).length : Int)) by omega)]
  refine iteF ?_
  refine ⟨_, rfl, _, _, rfl, .inl hb.seq, _, _, rfl, rfl, _, rfl, ?_⟩
  rw [decide_eq_false (show ¬ ((16777216 : Int) < ((byV b).length : Int)) by omega)]
  refine iteF ?_
  have D := due_agree la lb
  have ret : ∀ (H' : Hp) (z : Int), Same H H' → PyYqswja.agree (toInts a) (toInts b) = [z] → ∀ p, H' p = none → Q (.ref p) (upd H' p (.lst [V.int z])) := fun H' z s' e p hp =>
    kQ _ p (s'.trans (same_upd hp)) (by rw [e, upd_same]; rfl)
  have l7 : T7.length = 7 := rfl
  dsimp only [tNext, tAsg]
  intro x dx hx hdx hdxx
  have sB : Same H (upd (upd H dx (.own x)) x (.ins (CKd K) dx [])) := fun b u hb => by
    rw [upd_ne (fun z => by rw [z, hx] at hb; cases hb), upd_ne (fun z => by rw [z, hdx] at hb; cases hb)]
    exact hb
  refine ⟨x, dx, rfl, upd_same, fun H2 o t2 B2 g2 n1 n2' n3 n4 => ⟨rfl, ?_⟩⟩
  have S2 : Same H H2 := fun b u hb => t2 _ _ (by
    have : b ≠ x := fun z => by rw [z, hx] at hb; cases hb
    simpa using this) (sB _ _ hb)
  show tSeq _ _ _ _ _
  dsimp only [tSeq, tLcX, tLc, iTup, tTup, tCons, tNil, tVar]
  refine ⟨_, rfl, _, rfl, two_leS, fun tP htP => ⟨tP, rfl, ⟨_, SqT.of upd_same⟩, ?_⟩⟩
  intro D1 hD1
  have sP : Same H2 (upd H2 tP (.tup [V.ref aA, V.ref bA'])) := same_upd htP
  have n2 : ∀ {b : Addr} {u : HO}, H2 b = some u → b ≠ D1 := fun {b u} hb z => by
    have := sP _ _ hb
    rw [z, hD1] at this; cases this
  have nP : tP ≠ D1 := fun z => by rw [← z, upd_same] at hD1; cases hD1
  have hz : ∀ {l : List V}, l.length ≤ 2 → l.length < sizeLine := fun h => by
    rw [sizeLine_eq]
    omega
  have sdel : ∀ {H'}, Same H2 H' → Same H (delH H' D1) := fun s b u hb => by rw [delH_ne (n2 (S2 _ _ hb))]; exact s _ _ (S2 _ _ hb)
  have next1 : ∀ {H' H4 : Hp} {l : List V}, Same H2 H' → H' tP = some (.tup [V.ref aA, V.ref bA']) → Same (delH H' D1) H4 → Same H2 (upd H4 D1 (.lst l)) ∧ upd H4 D1 (.lst l) tP = some (.tup [V.ref aA, V.ref bA']) := fun s hp s4 =>
    ⟨fun b u hb => by rw [upd_ne (n2 hb)]; exact s4 _ _ (by rw [delH_ne (n2 hb)]; exact s _ _ hb), by rw [upd_ne nP]; exact s4 _ _ (by rw [delH_ne nP]; exact hp)⟩
  have keep1 : ∀ {H4 : Hp} {l : List V}, H4 D1 = none → Keeps [] [D1] H4 (upd H4 D1 (.lst l)) := fun {H4 l} hn a u ha _ => by
    have z : a ≠ D1 := fun z => by rw [z, hn] at ha; cases ha
    exact ⟨by rw [upd_ne z]; exact ha, by simpa using z⟩
  have fail6 : ∀ {H' : Hp} {DD : Ends} {σ : L2.St} {e : Int}, Same H H' → DD.rt = Q → PyYqswja.agree (toInts a) (toInts b) = [-6] → Flts (CF K) (fun cls d H'' => wMany K (fun _ _ _ _ => False) DD
      [(Value.ref (CF K), fun _ _ _ => tRet (tLst (tCons (tUn (rU fun i => V.int (-i)) (tC (V.int 6))) tNil))), (Value.ref (CN K), fun _ _ _ => tRet (tLst (tCons (tUn (rU fun i => V.int (-i)) (tC (V.int 5))) tNil)))] cls d σ H'') [] H' 1 e := fun s hD e6 =>
    fun H'' d s' _ => ⟨true, T.rd.fa.flt.te, fun _ a0 _ => ⟨_, rfl, one_leS, fun p hp => by
      have q := ret H'' (-6) (s.trans s'.same) e6 p hp
      rw [← hD] at q
      exact q⟩, fun z => Bool.noConfusion z⟩
  refine lc_tup (xs := [V.ref aA, V.ref bA']) (fun i H' => Same H2 H' ∧ H' tP = some (.tup [V.ref aA, V.ref bA']) ∧ (i = 0 → H' D1 = some (.lst [])) ∧ (i = 1 → ∃ v x1, Sw.decode a = .ok v ∧ RawT K H' [D1] v x1 0 ∧ H' D1 = some (.lst [V.ref x1])) ∧
      (i = 2 → ∃ v x1 u x2, Sw.decode a = .ok v ∧ Sw.decode b = .ok u ∧ RawT K H' [D1] v x1 0 ∧ RawT K H' [D1] u x2 0 ∧ H' D1 = some (.lst [V.ref x1, V.ref x2])))
    ⟨fun b u hb => by rw [upd_ne (n2 hb)]; exact sP _ _ hb, by rw [upd_ne nP]; exact upd_same, fun _ => upd_same, fun z => (by cases z), fun z => (by cases z)⟩ (fun i H' _ q => SqT.of q.2.1) ?_ ?_
  · rintro i y H' hy ⟨s', hp, p0, p1, p2⟩
    match i, hy with
    | 0, hy =>
      obtain rfl : V.ref aA = y := by simpa using hy
      refine ⟨rfl, yesT ⟨D1, [], p0 rfl, _, rfl, aA, a, rfl, ha.to (sdel s'), by omega, fun v hv H4 x1 s4 R4 hn => ?_, fun e he => fail6 (sdel s') rfl (by rw [he] at D; exact D)⟩⟩
      obtain ⟨m1, m2⟩ := next1 (l := [V.ref x1]) s' hp s4
      refine ⟨[], upd_same, hz (by simp), ?_⟩
      rw [upd_upd]
      exact ⟨m1, m2, fun z => (by cases z), fun _ => ⟨v, x1, hv, R4.to (keep1 hn), upd_same⟩, fun z => (by cases z)⟩
    | 1, hy =>
      obtain rfl : V.ref bA' = y := by simpa using hy
      obtain ⟨v, x1, hv, R1, q1⟩ := p1 rfl
      refine ⟨rfl, yesT ⟨D1, [V.ref x1], q1, _, rfl, bA', b, rfl, hb.to (sdel s'), by omega, fun u hu H4 x2 s4 R4 hn => ?_, fun e he => fail6 (sdel s') rfl (by rw [hv, he] at D; exact D)⟩⟩
      obtain ⟨m1, m2⟩ := next1 (l := [V.ref x1, V.ref x2]) s' hp s4
      refine ⟨[V.ref x1], upd_same, hz (by simp), ?_⟩
      rw [upd_upd]
      have k1 : Keeps [D1] [D1] H' (upd H4 D1 (.lst [V.ref x1, V.ref x2])) := fun a u ha hm => by
        have z : a ≠ D1 := by simpa using hm
        exact ⟨by rw [upd_ne z]; exact s4 _ _ (by rw [delH_ne z]; exact ha), hm⟩
      exact ⟨m1, m2, fun z => (by cases z), fun z => (by cases z), fun _ => ⟨v, x1, u, x2, hv, hu, R1.to k1, R4.to (keep1 hn), upd_same⟩⟩
    | i + 2, hy => simp at hy
  · rintro Hr ⟨sr, hp, _, _, p2⟩
    obtain ⟨v, x1, u, x2, hv, hu, R1, R2, q1⟩ := p2 rfl
    have Sr : Same H Hr := S2.trans sr
    have B2r := B2.to (SameX.of sr)
    have g2r : Hr o.ga = some (.dT []) := sr _ _ g2
    have k0 : Keeps [D1] [] Hr Hr := fun a u ha hm => ⟨ha, by simp⟩
    have Q1 := rawT_off B2r (by rw [l7]; decide) g2r v (R1.to k0)
    have Q2 := rawT_off B2r (by rw [l7]; decide) g2r u (R2.to k0)
    rw [hv, hu] at D
    dsimp only at D
    have ev := decode_enc hv
    have eu := decode_enc hu
    have lv : v.enc.length ≤ 8192 := by rw [ev]; exact la
    have lu : u.enc.length ≤ 8192 := by rw [eu]; exact lb
    show tAsg _ _ _ _ _
    dsimp only [tAsg, tLcX, tLc, iList, tVar]
    refine ⟨_, rfl, D1, rfl, ⟨_, SqL.of q1⟩, ?_⟩
    intro D2 hD2
    have dn : ∀ a ∈ [o.ra, o.na, o.ha], a ≠ D2 := fun a ha z => by
      have h1 : ∃ u, Hr a = some u := by
        simp only [List.mem_cons, List.not_mem_nil, or_false] at ha
        rcases ha with e | e | e
        · rw [e]; exact ⟨_, B2r.rows⟩
        · rw [e]; exact ⟨_, B2r.nums⟩
        · rw [e]; exact ⟨_, B2r.hol⟩
      obtain ⟨u, hu⟩ := h1
      rw [z, hD2] at hu
      cases hu
    have offH : ∀ {b : Addr} {u : HO}, H b = some u → b ∉ [o.ra, o.na, o.ha] := fun {b u} hb => by
      have q := sB _ _ hb
      have b1 : b ≠ o.ra := fun z => by rw [z, n1] at q; cases q
      have b2 : b ≠ o.na := fun z => by rw [z, n2'] at q; cases q
      have b3 : b ≠ o.ha := fun z => by rw [z, n3] at q; cases q
      simp [b1, b2, b3]
    have sX : ∀ {H'}, SameX [o.ra, o.na, o.ha] Hr H' → Same H H' := fun s b u hb => s _ _ (offH hb) (Sr _ _ hb)
    have km : ∀ {H1 o1}, o.sameAs o1 → SameX [o.ra, o.na, o.ha] Hr H1 → Keeps [o.ra, o.na, o.ha, o.ga] [o1.ra, o1.na, o1.ha, o1.ga] Hr H1 := fun so s => by
      obtain ⟨a1, a2, a3, a4, a5⟩ := so
      rw [a1, a2, a3, a5]
      exact fun a u ha hm => ⟨s _ _ (fun q => hm (by simp only [List.mem_cons, List.not_mem_nil, or_false] at q ⊢; rcases q with q | q | q <;> simp [q])) ha, hm⟩
    have d1 : D1 ∉ [o.ra, o.na, o.ha] := by
      have b1 : D1 ≠ o.ra := fun z => n2 B2.rows z.symm
      have b2 : D1 ≠ o.na := fun z => n2 B2.nums z.symm
      have b3 : D1 ≠ o.ha := fun z => n2 B2.hol z.symm
      simp [b1, b2, b3]
    have fail5 : ∀ {H' : Hp} {DD : Ends} {σ : L2.St}, SameX [o.ra, o.na, o.ha] Hr H' → DD.rt = Q → PyYqswja.agree (toInts a) (toInts b) = [-5] → wMany K (fun _ _ _ _ => False) DD
        [(Value.ref (CF K), fun _ _ _ => tRet (tLst (tCons (tUn (rU fun i => V.int (-i)) (tC (V.int 6))) tNil))), (Value.ref (CN K), fun _ _ _ => tRet (tLst (tCons (tUn (rU fun i => V.int (-i)) (tC (V.int 5))) tNil)))] (.ref (CN K)) none σ H' := fun {H' DD σ} s hD e5 =>
      ⟨false, N.tf, fun z => Bool.noConfusion z, fun _ => ⟨true, N.tn, fun _ a0 _ => ⟨_, rfl, one_leS, fun p hp => by
        have q := ret H' (-5) (sX s) e5 p hp
        rw [← hD] at q
        exact q⟩, fun z => Bool.noConfusion z⟩⟩
    have fin : ∀ {H' H3 : Hp} {T3 : List Rw} {o' o3 : KO} {l rs : List V}, o.sameAs o' → SameX [o.ra, o.na, o.ha] Hr H' → H' D2 = some (.lst l) → KTab P w K H3 x T3 o3 → o'.sameAs o3 → SameX [o'.ra, o'.na, o'.ha] H' H3 →
        H3 D2 = some (.lst l) ∧ KTab P w K (upd H3 D2 (.lst rs)) x T3 o3 ∧ o.sameAs o3 ∧ SameX [o.ra, o.na, o.ha] Hr (upd H3 D2 (.lst rs)) := fun {H' H3 T3 o' o3 l rs} so sx q B3 so3 s3 => by
      have s3' := so.x s3
      have hd3 := s3' _ _ (fun z => dn _ z rfl) q
      have so' := so.trans so3
      obtain ⟨c1, c2, c3, c4, c5⟩ := id so'
      obtain ⟨⟨dk3, hk3⟩, _⟩ := id B3
      refine ⟨hd3, B3.toX (samex_upd (by simp)) (ne_of hk3 hd3 (fun z => nomatch z)) (by rw [c1]; exact dn _ (by simp)) (by rw [c2]; exact dn _ (by simp)) (by rw [c3]; exact dn _ (by simp)) (fun v z => by rw [hd3] at z; cases z), so', fun b u nb hb => ?_⟩
      rw [upd_ne (fun z => by rw [z, hD2] at hb; cases hb)]
      exact s3' _ _ nb (sx _ _ nb hb)
    refine lc_list (xs := [V.ref x1, V.ref x2]) (fun i H' => ∃ T' o', ExtT T7 T' ∧ KTab P w K H' x T' o' ∧ o.sameAs o' ∧ SameX [o.ra, o.na, o.ha] Hr H' ∧ (i = 0 → T' = T7 ∧ H' D2 = some (.lst [])) ∧
        (i = 1 → ∃ (k1 : War.K) (i1 : Nat), War.toldKind v = some k1 ∧ i1 < T'.length ∧ kAt T' i1 = k1 ∧ T'.length ≤ 7 + v.enc.length ∧ H' D2 = some (.lst [V.int (i1 : Int)])) ∧
        (i = 2 → ∃ (k1 k2 : War.K) (i1 i2 : Nat), War.toldKind v = some k1 ∧ War.toldKind u = some k2 ∧ i1 < T'.length ∧ i2 < T'.length ∧ kAt T' i1 = k1 ∧ kAt T' i2 = k2 ∧ T'.length ≤ 7 + v.enc.length + u.enc.length ∧ H' D2 = some (.lst [V.int (i1 : Int), V.int (i2 : Int)])))
      ⟨T7, o, ExtT.refl _, B2r.to (SameX.of (same_upd hD2)), ⟨rfl, rfl, rfl, rfl, rfl⟩, SameX.of (same_upd hD2), fun _ => ⟨rfl, upd_same⟩, fun z => (by cases z), fun z => (by cases z)⟩ ?_ ?_ ?_
    · rintro i H' _ ⟨T', o', _, _, _, sx, _⟩
      exact SqL.of (sx _ _ d1 q1)
    · rintro i y H' hy ⟨T', o', e, B', so, sx, p0, p1, _⟩
      match i, hy with
      | 0, hy =>
        obtain rfl : V.ref x1 = y := by simpa using hy
        obtain ⟨rfl, q0⟩ := p0 rfl
        refine ⟨rfl, yesT ⟨_, rfl, _, rfl, x, x1, T7, o', v, 0, rfl, B', Q1.to (km so sx), Rd.decode_deep hv, by rw [l7]; omega, fun kd hkd H3 T3 o3 j e3 B3 so3 s3 l3 hj hkj => ?_, fun hn H3 s3 => fail5 (sx.trans (so.x s3)) rfl (by rw [hn] at D; exact D)⟩⟩
        obtain ⟨f1, f2, f3, f4⟩ := fin (rs := [V.int (j : Int)]) so sx q0 B3 so3 s3
        exact ⟨[], f1, hz (by simp), T3, o3, e.trans e3, f2, f3, f4, fun z => (by cases z), fun _ => ⟨kd, j, hkd, hj, hkj, by rw [l7] at l3; exact l3, upd_same⟩, fun z => (by cases z)⟩
      | 1, hy =>
        obtain rfl : V.ref x2 = y := by simpa using hy
        obtain ⟨k1, i1, hk1, hi1, ki1, hl1, q0⟩ := p1 rfl
        refine ⟨rfl, yesT ⟨_, rfl, _, rfl, x, x2, T', o', u, 0, rfl, B', Q2.to (km so sx), Rd.decode_deep hu, by omega, fun kd hkd H3 T3 o3 j e3 B3 so3 s3 l3 hj hkj => ?_, fun hn H3 s3 => fail5 (sx.trans (so.x s3)) rfl (by rw [hk1, hn] at D; exact D)⟩⟩
        obtain ⟨f1, f2, f3, f4⟩ := fin (rs := [V.int (i1 : Int), V.int (j : Int)]) so sx q0 B3 so3 s3
        exact ⟨[V.int (i1 : Int)], f1, hz (by simp), T3, o3, e.trans e3, f2, f3, f4, fun z => (by cases z), fun z => (by cases z), fun _ => ⟨k1, kd, i1, j, hk1, hkd, Nat.lt_of_lt_of_le hi1 e3.len, hj, by rw [e3.kAt hi1, ki1], hkj, by omega, upd_same⟩⟩
      | i + 2, hy => simp at hy
    · rintro H5 ⟨T5, o5, X5, B5, so5, s5, _, _, p2⟩
      obtain ⟨k1, k2, i, j, hk1, hk2, hi5, hj, ki5, kj, l5, q2⟩ := p2 rfl
      rw [hk1, hk2] at D
      dsimp only at D
      have SA := sX s5
      obtain ⟨c1, c2, c3, c4, c5⟩ := id so5
      have z0 : rowAt T5 0 = .nothing := by rw [X5.rowAt (by decide)]; rfl
      have tk1 := told_enc hk1
      have tk2 := told_enc hk2
      have lk1 : (toldB k1).length ≤ 8192 := by rw [tk1]; exact lv
      have lk2 : (toldB k2).length ≤ 8192 := by rw [tk2]; exact lu
      have sk1 := ksize_le k1
      have cst := kcost_le k1 k2
      have g5 : H5 o5.ga = some (.dT []) := by
        have d1 : o.ga ≠ o.ra := ne_of g2 B2.rows (fun z => nomatch z)
        have d2 : o.ga ≠ o.na := ne_of g2 B2.nums (fun z => nomatch z)
        have d3 : o.ga ≠ o.ha := ne_of g2 B2.hol (fun z => nomatch z)
        rw [c5]
        exact s5 _ _ (by simp [d1, d2, d3]) g2r
      obtain ⟨⟨dk, hk⟩, _⟩ := id B5
      refine ⟨D2, _, rfl, SqL.of q2, rfl, _, _, rfl, _, _, rfl, rfl, ?_⟩
      show tSeq _ _ _ _ _
      dsimp only [tNext, tSeq, tAsg, gName, tIfS, tTest, tOp]
      refine ⟨_, rfl, x, dk, _, rfl, hk, o5.l_agree, _, rfl, _, rfl, x, T5, o5, [], i, j, rfl, B5, g5, (fun q y h => by cases h), z0, hi5, hj, ?_, ?_, fun H6 T6 o6 G6 v6 X6 B6 g6 A6 m6 S6 V6 L6 => ?_⟩
      · rw [ki5, kj]; omega
      · rw [ki5, kj]; show 0 + _ < _; omega
      have SB : Same H H6 := fun b u hb => by
        have q := sB _ _ hb
        have b4 : b ≠ o.ga := fun z => by rw [z, n4] at q; cases q
        have b3 := offH hb
        exact S6 _ _ (by rw [c1, c2, c3, c5]; simp only [List.mem_cons, List.not_mem_nil, or_false] at b3 ⊢; simpa [b4] using b3) (SA _ _ hb)
      have e1 : kAt T6 i = k1 := by rw [X6.kAt hi5]; exact ki5
      have e2 : kAt T6 j = k2 := by rw [X6.kAt hj]; exact kj
      rcases V6 with ⟨e6, q6⟩ | ⟨m, hm, e6, q6⟩
      · subst e6
        have q6' : k1.agree k2 = none := by rw [← e1, ← e2]; exact q6
        rw [q6'] at D
        refine ⟨_, rfl, rfl, _, rfl, ?_⟩
        rw [decide_eq_true rfl]
        exact iteT ⟨_, rfl, one_leS, fun p hp => ret H6 (-9) SB D p hp⟩
      · subst e6
        have q6' : k1.agree k2 = some (kAt T6 m) := by rw [← e1, ← e2]; exact q6
        rw [q6'] at D
        dsimp only at D
        refine ⟨_, rfl, rfl, _, rfl, ?_⟩
        rw [decide_eq_false (show ¬ V.int (m : Int) = V.non from fun z => by cases z)]
        refine iteF ?_
        have hkn := kn_agree _ _ _ (told_kn hk1) (told_kn hk2) q6'
        have hln := agree_len _ _ _ q6'
        have hks := ksize_le (kAt T6 m)
        refine ⟨one_leS, fun p0 hp0 => ⟨_, rfl, _, rfl, x, T6, o6, m, rfl, B6.to (SameX.of (same_upd hp0)), hkn, hm, by omega, by omega, fun H8 l s8 hl hl0 => ?_⟩⟩
        refine ⟨p0, l, _, _, rfl, rfl, s8 _ _ upd_same, hl, ?_, fun p hp => kQ _ p (((SB.trans (same_upd hp0)).trans s8).trans (same_upd hp)) ?_⟩
        · rw [byV_len, sizeLine_eq]
          show 1 + _ ≤ _
          omega
        · rw [D, upd_same]
          show some (HO.lst ([V.int 0] ++ byV (toldB (kAt T6 m)))) = some (HO.lst ((0 :: toInts (toldB (kAt T6 m))).map V.int))
          rw [List.map_cons]
          unfold toInts
          rw [List.map_map]
          rfl
end
end Hs
end
section
set_option Elab.async false
set_option linter.all false
set_option maxRecDepth 100000
set_option maxHeartbeats 2000000
namespace Hs
open PySem PySem.Spec PyProof.Rows L2 Kt Nest
def faL : List He.Fa := [.glo "second_of_three", .keep "second_of_three", .glo "second_of_four", .keep "second_of_four", .glo "tails_of", .keep "tails_of", .glo "broken_at", .keep "broken_at", .glo "plain_signs", .keep "plain_signs", .glo "spelled", .keep "spelled", .str "SMALL" smallT, .str "LARGE" largeT, .str "FIGURES" figT, .str "COMPARING" cmpT, .free "ord", .glo "need", .keep "need", .int "NO_PROGRAM" 1, .glo "Raw", .cls "Raw", .mkr "Raw", .meth "Raw" "__init__", .noat "Raw" "kind", .noat "Raw" "place", .noat "Raw" "text", .noat "Raw" "below", .noat "Raw" "names", .noat "Raw" "members", .noat "Raw" "last_codes", .noat "Raw" "missing", .noat "Raw" "deep", .glo "Reader", .cls "Reader", .mkr "Reader", .meth "Reader" "__init__", .noat "Reader" "codes", .noat "Reader" "at", .noat "Reader" "signs", .meth "Reader" "take", .meth "Reader" "varying", .meth "Reader" "begin", .meth "Reader" "number_is_below", .meth "Reader" "read_text", .meth "Reader" "read_name", .glo "read_value", .keep "read_value", .int "NUMBER" 2, .int "BYTES" 3, .int "TEXT" 4, .int "LIST" 5, .int "RECORD" 6, .int "MOMENT" 7, .int "ID" 8, .int "DEEPEST" 64, .int "LARGEST_VARYING" 4294967295, .int "LONGEST_NUMBER" 4096, .int "LONGEST_RECORD_NAME" 255, .free "len", .free "range", .free "max", .glo "Kinds", .cls "Kinds", .mkr "Kinds", .meth "Kinds" "__init__", .noat "Kinds" "rows", .noat "Kinds" "numbers", .noat "Kinds" "hollow", .noat "Kinds" "sorts", .noat "Kinds" "agreed", .meth "Kinds" "number_of", .meth "Kinds" "plain", .meth "Kinds" "list_of", .meth "Kinds" "record_of", .meth "Kinds" "agree", .meth "Kinds" "pairs_within", .meth "Kinds" "alike", .meth "Kinds" "joined", .int "NOTHING" 0, .free "any", .free "zip", .free "list", .free "tuple", .glo "Writer", .cls "Writer", .mkr "Writer", .meth "Writer" "__init__", .noat "Writer" "codes", .meth "Writer" "put_varying", .meth "Writer" "put_signs", .meth "Writer" "put_text", .meth "Writer" "put_record", .glo "kind_told", .keep "kind_told", .glo "put_kind", .keep "put_kind", .glo "put_sort", .keep "put_sort", .glo "is_name", .keep "is_name", .glo "is_token", .keep "is_token", .int "LONGEST_NAME" 64, .free "all", .glo "read_kind", .keep "read_kind", .glo "read_record", .keep "read_record", .glo "all_names", .keep "all_names", .meth "Kinds" "sort_named", .glo "agree", .keep "agree", .int "LONGEST_VALUE" 16777216]
def fnL : List He.FnD := [⟨("second_of_three", none), "second_of_three", "second_of_three", defArgs s_second_of_three, defBody s_second_of_three, defScope s_second_of_three⟩,
  ⟨("second_of_four", none), "second_of_four", "second_of_four", defArgs s_second_of_four, defBody s_second_of_four, defScope s_second_of_four⟩,
  ⟨("tails_of", none), "tails_of", "tails_of", defArgs s_tails_of, defBody s_tails_of, defScope s_tails_of⟩,
  ⟨("broken_at", none), "broken_at", "broken_at", defArgs s_broken_at, defBody s_broken_at, defScope s_broken_at⟩,
  ⟨("plain_signs", none), "plain_signs", "plain_signs", defArgs s_plain_signs, defBody s_plain_signs, defScope s_plain_signs⟩,
  ⟨("spelled", none), "spelled", "spelled", defArgs s_spelled, defBody s_spelled, defScope s_spelled⟩,
  ⟨("need", none), "need", "need", defArgs s_need, defBody s_need, defScope s_need⟩,
  ⟨("Raw", some "__init__"), "__init__", "Raw.__init__", defArgs s_Raw___init__, defBody s_Raw___init__, defScope s_Raw___init__⟩,
  ⟨("Reader", some "__init__"), "__init__", "Reader.__init__", defArgs s_Reader___init__, defBody s_Reader___init__, defScope s_Reader___init__⟩,
  ⟨("Reader", some "take"), "take", "Reader.take", defArgs s_Reader_take, defBody s_Reader_take, defScope s_Reader_take⟩,
  ⟨("Reader", some "varying"), "varying", "Reader.varying", defArgs s_Reader_varying, defBody s_Reader_varying, defScope s_Reader_varying⟩,
  ⟨("Reader", some "begin"), "begin", "Reader.begin", defArgs s_Reader_begin, defBody s_Reader_begin, defScope s_Reader_begin⟩,
  ⟨("Reader", some "number_is_below"), "number_is_below", "Reader.number_is_below", defArgs s_Reader_number_is_below, defBody s_Reader_number_is_below, defScope s_Reader_number_is_below⟩,
  ⟨("Reader", some "read_text"), "read_text", "Reader.read_text", defArgs s_Reader_read_text, defBody s_Reader_read_text, defScope s_Reader_read_text⟩,
  ⟨("Reader", some "read_name"), "read_name", "Reader.read_name", defArgs s_Reader_read_name, defBody s_Reader_read_name, defScope s_Reader_read_name⟩,
  ⟨("read_value", none), "read_value", "read_value", defArgs s_read_value, defBody s_read_value, defScope s_read_value⟩,
  ⟨("Kinds", some "__init__"), "__init__", "Kinds.__init__", defArgs s_Kinds___init__, defBody s_Kinds___init__, defScope s_Kinds___init__⟩,
  ⟨("Kinds", some "number_of"), "number_of", "Kinds.number_of", defArgs s_Kinds_number_of, defBody s_Kinds_number_of, defScope s_Kinds_number_of⟩,
  ⟨("Kinds", some "plain"), "plain", "Kinds.plain", defArgs s_Kinds_plain, defBody s_Kinds_plain, defScope s_Kinds_plain⟩,
  ⟨("Kinds", some "list_of"), "list_of", "Kinds.list_of", defArgs s_Kinds_list_of, defBody s_Kinds_list_of, defScope s_Kinds_list_of⟩,
  ⟨("Kinds", some "record_of"), "record_of", "Kinds.record_of", defArgs s_Kinds_record_of, defBody s_Kinds_record_of, defScope s_Kinds_record_of⟩,
  ⟨("Kinds", some "agree"), "agree", "Kinds.agree", defArgs s_Kinds_agree, defBody s_Kinds_agree, defScope s_Kinds_agree⟩,
  ⟨("Kinds", some "pairs_within"), "pairs_within", "Kinds.pairs_within", defArgs s_Kinds_pairs_within, defBody s_Kinds_pairs_within, defScope s_Kinds_pairs_within⟩,
  ⟨("Kinds", some "alike"), "alike", "Kinds.alike", defArgs s_Kinds_alike, defBody s_Kinds_alike, defScope s_Kinds_alike⟩,
  ⟨("Kinds", some "joined"), "joined", "Kinds.joined", defArgs s_Kinds_joined, defBody s_Kinds_joined, defScope s_Kinds_joined⟩,
  ⟨("Writer", some "__init__"), "__init__", "Writer.__init__", defArgs s_Writer___init__, defBody s_Writer___init__, defScope s_Writer___init__⟩,
  ⟨("Writer", some "put_varying"), "put_varying", "Writer.put_varying", defArgs s_Writer_put_varying, defBody s_Writer_put_varying, defScope s_Writer_put_varying⟩,
  ⟨("Writer", some "put_signs"), "put_signs", "Writer.put_signs", defArgs s_Writer_put_signs, defBody s_Writer_put_signs, defScope s_Writer_put_signs⟩,
  ⟨("Writer", some "put_text"), "put_text", "Writer.put_text", defArgs s_Writer_put_text, defBody s_Writer_put_text, defScope s_Writer_put_text⟩,
  ⟨("Writer", some "put_record"), "put_record", "Writer.put_record", defArgs s_Writer_put_record, defBody s_Writer_put_record, defScope s_Writer_put_record⟩,
  ⟨("kind_told", none), "kind_told", "kind_told", defArgs s_kind_told, defBody s_kind_told, defScope s_kind_told⟩,
  ⟨("put_kind", none), "put_kind", "put_kind", defArgs s_put_kind, defBody s_put_kind, defScope s_put_kind⟩,
  ⟨("put_sort", none), "put_sort", "put_sort", defArgs s_put_sort, defBody s_put_sort, defScope s_put_sort⟩,
  ⟨("is_name", none), "is_name", "is_name", defArgs s_is_name, defBody s_is_name, defScope s_is_name⟩,
  ⟨("is_token", none), "is_token", "is_token", defArgs s_is_token, defBody s_is_token, defScope s_is_token⟩,
  ⟨("read_kind", none), "read_kind", "read_kind", defArgs s_read_kind, defBody s_read_kind, defScope s_read_kind⟩,
  ⟨("read_record", none), "read_record", "read_record", defArgs s_read_record, defBody s_read_record, defScope s_read_record⟩,
  ⟨("all_names", none), "all_names", "all_names", defArgs s_all_names, defBody s_all_names, defScope s_all_names⟩,
  ⟨("Kinds", some "sort_named"), "sort_named", "Kinds.sort_named", defArgs s_Kinds_sort_named, defBody s_Kinds_sort_named, defScope s_Kinds_sort_named⟩,
  ⟨("agree", none), "agree", "agree", defArgs s_agree, defBody s_agree, defScope s_agree⟩,
  ⟨("Fault", some "__init__"), "__init__", "Fault.__init__", defArgs s_Fault___init__, defBody s_Fault___init__, defScope s_Fault___init__⟩]
section
variable {K : PySem.W.Frag} {h : Heap} {mg : Str → Option Value}
def DefAt (K : PySem.W.Frag) (d : He.FnD) : Prop := ∃ oc od osl kV doc pm an cdv ct, K.lookup (He.fAd K d.at_) = some ⟨oc, od, .func (PySem.W.fnOf d.name d.qual d.params d.body d.scope .none kV doc pm an cdv ct), osl⟩ ∧ PySem.W.codeIn K cdv d.qual = true
theorem fdA_at {a : Addr} {oc : Value} {od : Option Addr} {fd : FuncData} {osl : Array (Option Value)} (l : K.lookup a = some ⟨oc, od, .func fd, osl⟩) : fdA K a = fd := by unfold fdA; rw [l]
theorem fnT_mk {x : Str} {st : Stmt} (X : K.In h) (G : h.Ns mainGlobals mg) (d : DefAt K ⟨(x, none), x, x, defArgs st, defBody st, defScope st⟩) (g : (He.Fa.glo x).ok K = true) (k : (He.Fa.keep x).ok K = true) : FnT K mg x st := by
  obtain ⟨oc, od, osl, kV, doc, pm, an, cdv, ct, l, cc⟩ := d
  have l' : K.lookup (ga K x) = some ⟨oc, od, .func (PySem.W.fnOf x x (defArgs st) (defBody st) (defScope st) .none kV doc pm an cdv ct), osl⟩ := l
  exact ⟨He.glo_ok X G g, by rw [fdA_at l']; exact fun_mk l' cc (He.keep_ok k)⟩
theorem meT_mk {C m q : Str} {st : Stmt} (d : DefAt K ⟨(C, some m), m, q, defArgs st, defBody st, defScope st⟩) (g : (He.Fa.meth C m).ok K = true) : MeT K C m q st := by
  obtain ⟨oc, od, osl, kV, doc, pm, an, cdv, ct, l, cc⟩ := d
  have l' : K.lookup (ma K C m) = some ⟨oc, od, .func (PySem.W.fnOf m q (defArgs st) (defBody st) (defScope st) .none kV doc pm an cdv ct), osl⟩ := l
  have M := He.meth_ok g
  exact ⟨M, by rw [fdA_at l']; exact fun_mk l' cc (He.ba (He.ba g).2).2⟩
theorem mk_TUtf (X : K.In h) (G : h.Ns mainGlobals mg) (c : He.SaysE faL fnL K) : TUtf K mg := by
  refine ⟨?_, ?_, ?_, ?_⟩
  · exact (fnT_mk X G (c.def_ 0 rfl) (c.fact 0 rfl) (c.fact 1 rfl))
  · exact (fnT_mk X G (c.def_ 1 rfl) (c.fact 2 rfl) (c.fact 3 rfl))
  · exact (fnT_mk X G (c.def_ 2 rfl) (c.fact 4 rfl) (c.fact 5 rfl))
  · exact (fnT_mk X G (c.def_ 3 rfl) (c.fact 6 rfl) (c.fact 7 rfl))
theorem mk_TSp (X : K.In h) (G : h.Ns mainGlobals mg) (c : He.SaysE faL fnL K) : TSp K mg := by
  refine ⟨?_, ?_, ?_, ?_, ?_, ?_, ?_⟩
  · exact (fnT_mk X G (c.def_ 4 rfl) (c.fact 8 rfl) (c.fact 9 rfl))
  · exact (fnT_mk X G (c.def_ 5 rfl) (c.fact 10 rfl) (c.fact 11 rfl))
  · exact (He.str_ok X G (c.fact 12 rfl))
  · exact (He.str_ok X G (c.fact 13 rfl))
  · exact (He.str_ok X G (c.fact 14 rfl))
  · exact (He.str_ok X G (c.fact 15 rfl))
  · exact (He.free_ok X G (c.fact 16 rfl))
theorem mk_TFa (X : K.In h) (G : h.Ns mainGlobals mg) (c : He.SaysE faL fnL K) (a_flt : PySem.FltX.FltTxt K mg (ga K "Fault") (ma K "Fault" "__init__")) : TFa K mg := by
  refine ⟨?_, ?_, ?_⟩
  · exact (a_flt)
  · exact (fnT_mk X G (c.def_ 6 rfl) (c.fact 17 rfl) (c.fact 18 rfl))
  · exact (He.int_ok X G (c.fact 19 rfl))
theorem mk_TRd (X : K.In h) (G : h.Ns mainGlobals mg) (c : He.SaysE faL fnL K) (a_flt : PySem.FltX.FltTxt K mg (ga K "Fault") (ma K "Fault" "__init__")) : TRd K mg := by
  refine ⟨?_, ?_, ?_, ?_, ?_, ?_, ?_, ?_, ?_, ?_, ?_, ?_, ?_, ?_, ?_, ?_, ?_, ?_, ?_, ?_, ?_, ?_, ?_, ?_, ?_, ?_, ?_, ?_, ?_, ?_⟩
  · exact (mk_TFa X G c a_flt)
  · exact (mk_TSp X G c)
  · exact (mk_TUtf X G c)
  · exact (⟨He.glo_ok X G (c.fact 20 rfl), He.cls_ok (c.fact 21 rfl), He.mkr_ok (c.fact 22 rfl)⟩)
  · exact (meT_mk (c.def_ 7 rfl) (c.fact 23 rfl))
  · exact (fun f hf => by
    simp only [List.mem_cons, List.not_mem_nil, or_false] at hf
    rcases hf with rfl | rfl | rfl | rfl | rfl | rfl | rfl | rfl | rfl
    · exact He.noat_ok (c.fact 24 rfl)
    · exact He.noat_ok (c.fact 25 rfl)
    · exact He.noat_ok (c.fact 26 rfl)
    · exact He.noat_ok (c.fact 27 rfl)
    · exact He.noat_ok (c.fact 28 rfl)
    · exact He.noat_ok (c.fact 29 rfl)
    · exact He.noat_ok (c.fact 30 rfl)
    · exact He.noat_ok (c.fact 31 rfl)
    · exact He.noat_ok (c.fact 32 rfl))
  · exact (⟨He.glo_ok X G (c.fact 33 rfl), He.cls_ok (c.fact 34 rfl), He.mkr_ok (c.fact 35 rfl)⟩)
  · exact (meT_mk (c.def_ 8 rfl) (c.fact 36 rfl))
  · exact (fun f hf => by
    simp only [List.mem_cons, List.not_mem_nil, or_false] at hf
    rcases hf with rfl | rfl | rfl
    · exact He.noat_ok (c.fact 37 rfl)
    · exact He.noat_ok (c.fact 38 rfl)
    · exact He.noat_ok (c.fact 39 rfl))
  · exact (meT_mk (c.def_ 9 rfl) (c.fact 40 rfl))
  · exact (meT_mk (c.def_ 10 rfl) (c.fact 41 rfl))
  · exact (meT_mk (c.def_ 11 rfl) (c.fact 42 rfl))
  · exact (meT_mk (c.def_ 12 rfl) (c.fact 43 rfl))
  · exact (meT_mk (c.def_ 13 rfl) (c.fact 44 rfl))
  · exact (meT_mk (c.def_ 14 rfl) (c.fact 45 rfl))
  · exact (fnT_mk X G (c.def_ 15 rfl) (c.fact 46 rfl) (c.fact 47 rfl))
  · exact (He.int_ok X G (c.fact 48 rfl))
  · exact (He.int_ok X G (c.fact 49 rfl))
  · exact (He.int_ok X G (c.fact 50 rfl))
  · exact (He.int_ok X G (c.fact 51 rfl))
  · exact (He.int_ok X G (c.fact 52 rfl))
  · exact (He.int_ok X G (c.fact 53 rfl))
  · exact (He.int_ok X G (c.fact 54 rfl))
  · exact (He.int_ok X G (c.fact 55 rfl))
  · exact (He.int_ok X G (c.fact 56 rfl))
  · exact (He.int_ok X G (c.fact 57 rfl))
  · exact (He.int_ok X G (c.fact 58 rfl))
  · exact (He.free_ok X G (c.fact 59 rfl))
  · exact (He.free_ok X G (c.fact 60 rfl))
  · exact (He.free_ok X G (c.fact 61 rfl))
theorem mk_TKd (X : K.In h) (G : h.Ns mainGlobals mg) (c : He.SaysE faL fnL K) : TKd K mg := by
  refine ⟨?_, ?_, ?_, ?_, ?_, ?_, ?_, ?_, ?_, ?_, ?_, ?_, ?_, ?_, ?_, ?_, ?_⟩
  · exact (⟨He.glo_ok X G (c.fact 62 rfl), He.cls_ok (c.fact 63 rfl), He.mkr_ok (c.fact 64 rfl)⟩)
  · exact (meT_mk (c.def_ 16 rfl) (c.fact 65 rfl))
  · exact (fun f hf => by
    simp only [List.mem_cons, List.not_mem_nil, or_false] at hf
    rcases hf with rfl | rfl | rfl | rfl | rfl
    · exact He.noat_ok (c.fact 66 rfl)
    · exact He.noat_ok (c.fact 67 rfl)
    · exact He.noat_ok (c.fact 68 rfl)
    · exact He.noat_ok (c.fact 69 rfl)
    · exact He.noat_ok (c.fact 70 rfl))
  · exact (meT_mk (c.def_ 17 rfl) (c.fact 71 rfl))
  · exact (meT_mk (c.def_ 18 rfl) (c.fact 72 rfl))
  · exact (meT_mk (c.def_ 19 rfl) (c.fact 73 rfl))
  · exact (meT_mk (c.def_ 20 rfl) (c.fact 74 rfl))
  · exact (meT_mk (c.def_ 21 rfl) (c.fact 75 rfl))
  · exact (meT_mk (c.def_ 22 rfl) (c.fact 76 rfl))
  · exact (meT_mk (c.def_ 23 rfl) (c.fact 77 rfl))
  · exact (meT_mk (c.def_ 24 rfl) (c.fact 78 rfl))
  · exact (He.int_ok X G (c.fact 79 rfl))
  · exact (He.free_ok X G (c.fact 59 rfl))
  · exact (He.free_ok X G (c.fact 80 rfl))
  · exact (He.free_ok X G (c.fact 81 rfl))
  · exact (He.free_ok X G (c.fact 82 rfl))
  · exact (He.free_ok X G (c.fact 83 rfl))
theorem mk_TWr (X : K.In h) (G : h.Ns mainGlobals mg) (c : He.SaysE faL fnL K) : TWr K mg := by
  refine ⟨?_, ?_, ?_, ?_, ?_, ?_, ?_, ?_, ?_, ?_, ?_⟩
  · exact (⟨He.glo_ok X G (c.fact 84 rfl), He.cls_ok (c.fact 85 rfl), He.mkr_ok (c.fact 86 rfl)⟩)
  · exact (meT_mk (c.def_ 25 rfl) (c.fact 87 rfl))
  · exact (fun f hf => by
    simp only [List.mem_cons, List.not_mem_nil, or_false] at hf
    rcases hf with rfl
    · exact He.noat_ok (c.fact 88 rfl))
  · exact (meT_mk (c.def_ 26 rfl) (c.fact 89 rfl))
  · exact (meT_mk (c.def_ 27 rfl) (c.fact 90 rfl))
  · exact (meT_mk (c.def_ 28 rfl) (c.fact 91 rfl))
  · exact (meT_mk (c.def_ 29 rfl) (c.fact 92 rfl))
  · exact (He.int_ok X G (c.fact 50 rfl))
  · exact (He.int_ok X G (c.fact 52 rfl))
  · exact (He.free_ok X G (c.fact 59 rfl))
  · exact (He.free_ok X G (c.fact 16 rfl))
theorem mk_TTl (X : K.In h) (G : h.Ns mainGlobals mg) (c : He.SaysE faL fnL K) : TTl K mg := by
  refine ⟨?_, ?_, ?_, ?_, ?_⟩
  · exact (mk_TKd X G c)
  · exact (mk_TWr X G c)
  · exact (fnT_mk X G (c.def_ 30 rfl) (c.fact 93 rfl) (c.fact 94 rfl))
  · exact (fnT_mk X G (c.def_ 31 rfl) (c.fact 95 rfl) (c.fact 96 rfl))
  · exact (fnT_mk X G (c.def_ 32 rfl) (c.fact 97 rfl) (c.fact 98 rfl))
theorem mk_TTk (X : K.In h) (G : h.Ns mainGlobals mg) (c : He.SaysE faL fnL K) : TTk K mg := by
  refine ⟨?_, ?_, ?_, ?_, ?_, ?_, ?_⟩
  · exact (fnT_mk X G (c.def_ 33 rfl) (c.fact 99 rfl) (c.fact 100 rfl))
  · exact (fnT_mk X G (c.def_ 34 rfl) (c.fact 101 rfl) (c.fact 102 rfl))
  · exact (He.str_ok X G (c.fact 12 rfl))
  · exact (He.str_ok X G (c.fact 14 rfl))
  · exact (He.int_ok X G (c.fact 103 rfl))
  · exact (He.free_ok X G (c.fact 59 rfl))
  · exact (He.free_ok X G (c.fact 104 rfl))
theorem mk_TKr (X : K.In h) (G : h.Ns mainGlobals mg) (c : He.SaysE faL fnL K) : TKr K mg := by
  refine ⟨?_, ?_, ?_, ?_⟩
  · exact (fnT_mk X G (c.def_ 35 rfl) (c.fact 105 rfl) (c.fact 106 rfl))
  · exact (fnT_mk X G (c.def_ 36 rfl) (c.fact 107 rfl) (c.fact 108 rfl))
  · exact (fnT_mk X G (c.def_ 37 rfl) (c.fact 109 rfl) (c.fact 110 rfl))
  · exact (meT_mk (c.def_ 38 rfl) (c.fact 111 rfl))
theorem mk_TDk (X : K.In h) (G : h.Ns mainGlobals mg) (c : He.SaysE faL fnL K) (a_flt : PySem.FltX.FltTxt K mg (ga K "Fault") (ma K "Fault" "__init__")) : TDk K mg := by
  refine ⟨?_, ?_, ?_, ?_, ?_, ?_, ?_⟩
  · exact (mk_TRd X G c a_flt)
  · exact (mk_TTl X G c)
  · exact (mk_TTk X G c)
  · exact (mk_TKr X G c)
  · exact (fnT_mk X G (c.def_ 39 rfl) (c.fact 112 rfl) (c.fact 113 rfl))
  · exact (He.int_ok X G (c.fact 114 rfl))
  · exact (He.free_ok X G (c.fact 59 rfl))
theorem flt_def (c : He.SaysE faL fnL K) : DefAt K ⟨("Fault", some "__init__"), "__init__", "Fault.__init__", defArgs s_Fault___init__, defBody s_Fault___init__, defScope s_Fault___init__⟩ := c.def_ 40 rfl
end
end Hs
end
section
set_option Elab.async false
set_option linter.all false
set_option maxRecDepth 100000
set_option maxHeartbeats 2000000
namespace Hs
open PySem PySem.Spec PyProof.Rows L2 Kt Nest
/-- no object of the top is a list -/
def noLst (K : PySem.W.Frag) : Bool := K.all fun p => !decide (p.2.cls = .type "list")
theorem noLst_at {K : PySem.W.Frag} (h : noLst K = true) {a : Addr} {o : Obj} (e : K.lookup a = some o) : o.cls ≠ .type "list" := by
  have m : ∀ {l : PySem.W.Frag}, l.lookup a = some o → ∃ p ∈ l, p.2 = o := fun {l} => by
    induction l with
    | nil => intro e; cases e
    | cons p l ih =>
      intro e
      obtain ⟨b, u⟩ := p
      rw [List.lookup_cons] at e
      split at e
      · injection e with e
        exact ⟨(b, u), List.mem_cons_self, e⟩
      · obtain ⟨q, h1, h2⟩ := ih e
        exact ⟨q, List.mem_cons_of_mem _ h1, h2⟩
  obtain ⟨p, h1, h2⟩ := m e
  have q := List.all_eq_true.mp h p h1
  rw [← h2]
  simpa using q
def fltB (K : PySem.W.Frag) : Bool := xfB K (ga K "Fault") && (He.eqO (PySem.W.findIn K (.ref (ga K "Fault")) "__setattr__") (some (some (.builtin "object.__setattr__"))) && (He.eqO (PySem.W.findIn K (.ref (ga K "Fault")) "kind") (some none) &&
  (He.eqO (PySem.W.findIn K (.ref (ga K "Fault")) "place") (some none) && (He.eqO (PySem.W.findIn K (.ref (ga K "Fault")) "__init__") (some (some (.ref (ma K "Fault" "__init__")))) && (decide (PySem.W.typeIn K (.ref (ma K "Fault" "__init__")) = some (.type "function")) &&
  (PySem.W.keepIn K (.ref (ga K "Fault")) && (decide (PySem.W.typeIn K (.ref (ga K "Fault")) = some (.type "type")) && decide (PySem.W.exmOne K (.ref (ga K "Fault")) (.ref (ga K "Fault")) = some true))))))))
section
variable {K : PySem.W.Frag} {h : Heap} {mg : Str → Option Value}
theorem ga_of {x : Str} {a : Addr} (e : PySem.W.nsIn K mainGlobals x = some (some (.ref a))) : ga K x = a := by
  show He.ga K x = a
  unfold He.ga
  rw [e]
theorem flt_mk (X : K.In h) (G : h.Ns mainGlobals mg) {C N : Addr} {nm q : Str} {bs : List Value} {sn : List Str} {sub : List Value} {ab : Bool} {col : Option Bool} {dd : Option Addr} {k0 k1 k2 k3 k5 : Option Value}
    (aC : PySem.W.nsIn K mainGlobals "Fault" = some (some (.ref C))) (xL : K.lookup C = some (excClassObj nm q C N bs ESX.exTail true sn sub ab col dd k0 k1 k2 k3 k5 "Exception.__new__")) (b : fltB K = true) (c : He.SaysE faL fnL K) :
    PySem.FltX.FltTxt K mg (ga K "Fault") (ma K "Fault" "__init__") := by
  have eC := ga_of aC
  unfold fltB at b
  obtain ⟨b1, b⟩ := He.ba b
  obtain ⟨b2, b⟩ := He.ba b
  obtain ⟨b3, b⟩ := He.ba b
  obtain ⟨b4, b⟩ := He.ba b
  obtain ⟨b5, b⟩ := He.ba b
  obtain ⟨b6, b⟩ := He.ba b
  obtain ⟨b7, b⟩ := He.ba b
  obtain ⟨b8, b9⟩ := He.ba b
  refine ⟨by rw [eC]; exact PySem.W.mg_of X G aC, by rw [eC]; exact ⟨_, _, _, _, _, _, _, _, _, _, _, _, _, _, xL⟩, He.eqO_ok b2, xfB_ok b1, He.eqO_ok b3, He.eqO_ok b4, He.eqO_ok b5, of_decide_eq_true b6, b7, of_decide_eq_true b8, of_decide_eq_true b9, ?_⟩
  obtain ⟨oc, od, osl, kV, doc, pm, an, cdv, ct, l, cc⟩ := flt_def c
  exact ⟨oc, od, doc, pm, an, cdv, ct, kV, osl, _, _, _, _, _, _, _, _, _, _, _, l, cc⟩
def strsOf : List Value → Option (List Str)
  | [] => some []
  | .str z _ :: l => (strsOf l).map (z :: ·)
  | _ :: _ => none
theorem strs_vals : ∀ {us : List Value} {xs : List Str}, strsOf us = some xs → Vals (xs.map V.str) us
  | [], xs, e => by
    injection e with e
    subst e
    exact .nil
  | .str z t :: us, xs, e => by
    unfold strsOf at e
    obtain ⟨y, hy, e⟩ := Option.map_eq_some_iff.mp e
    subst e
    exact .cons ⟨t, rfl⟩ (strs_vals hy)
  | .none :: _, _, e => by cases e
  | .bool _ :: _, _, e => by cases e
  | .int _ _ :: _, _, e => by cases e
  | .ref _ :: _, _, e => by cases e
  | .type _ :: _, _, e => by cases e
  | .builtin _ :: _, _, e => by cases e
theorem tupT_mk (X : K.In h) (G : h.Ns mainGlobals mg) {x : Str} {xs : List Str} {a : Addr} {d : Option Addr} {its : Array Value} {n : Nat} {sl : Array (Option Value)} (ax : PySem.W.nsIn K mainGlobals x = some (some (.ref a)))
    (lx : K.lookup a = some ⟨.type "tuple", d, .seq its n, sl⟩) (hs : strsOf its.toList = some xs) (hz : its.size ≤ sizeLine) : TupT K mg x (xs.map V.str) :=
  ⟨a, PySem.W.mg_of X G ax, fun H => .inr ⟨_, its, n, lx, rfl, rfl, hz, strs_vals hs⟩⟩
end
end Hs
end
section
set_option Elab.async false
set_option linter.all false
set_option maxRecDepth 100000
set_option maxHeartbeats 2000000
namespace Hs
open PySem PySem.Spec PyProof.Rows L2 Kt Nest Tl
/-- the promise, wherever no list is the top's -/
def spTop (K : PySem.W.Frag) : Sp := fun vs H Q E => noLst K = true → spDesk K vs H Q E
def ntkB (K : PySem.W.Frag) : Bool := PySem.W.excIn K (CN K) [.type "Exception", .type "BaseException", .type "object"] "Exception.__new__" && (PySem.W.keepIn K (.ref (CN K)) && (decide (PySem.W.subIn K (.ref (CN K)) (.type "BaseException") = some true) &&
  (decide (PySem.W.typeIn K (.ref (CN K)) = some (.type "type")) && (decide (PySem.W.exmOne K (.ref (CN K)) (.ref (CN K)) = some true) && decide (PySem.W.exmOne K (.ref (CN K)) (.ref (ga K "Fault")) = some false)))))
section
variable {P : Program} {w : World} {K : PySem.W.Frag} {h : Heap} {mg : Str → Option Value}
theorem ntk_mk (X : K.In h) (G : h.Ns mainGlobals mg) {C : Addr} (aC : PySem.W.nsIn K mainGlobals "NoToldKind" = some (some (.ref C))) (b : ntkB K = true) : NtkT K mg := by
  have eC := ga_of aC
  unfold ntkB at b
  obtain ⟨b1, b⟩ := He.ba b
  obtain ⟨b2, b⟩ := He.ba b
  obtain ⟨b3, b⟩ := He.ba b
  obtain ⟨b4, b⟩ := He.ba b
  obtain ⟨b5, b6⟩ := He.ba b
  exact ⟨by rw [show CN K = C from eC]; exact PySem.W.mg_of X G aC, b1, b2, of_decide_eq_true b3, of_decide_eq_true b4, of_decide_eq_true b5, of_decide_eq_true b6⟩
theorem main_mk {fa : Addr} (X : K.In h) (G : h.Ns mainGlobals mg) (hfa : mg "agree" = some (.ref fa)) {C N : Addr} {nm q : Str} {bs : List Value} {sn : List Str} {sub : List Value} {ab : Bool} {col : Option Bool} {dd : Option Addr} {k0 k1 k2 k3 k5 : Option Value}
    {p1 p2 : Addr} {d1 d2 : Option Addr} {i1 i2 : Array Value} {n1 n2 : Nat} {l1 l2 : Array (Option Value)}
    {CN' : Addr} (c : He.SaysE faL fnL K) (b : fltB K = true) (bN : ntkB K = true) (nl : noLst K = true)
    (aN : PySem.W.nsIn K mainGlobals "NoToldKind" = some (some (.ref CN')))
    (aC : PySem.W.nsIn K mainGlobals "Fault" = some (some (.ref C))) (xL : K.lookup C = some (excClassObj nm q C N bs ESX.exTail true sn sub ab col dd k0 k1 k2 k3 k5 "Exception.__new__"))
    (aP : PySem.W.nsIn K mainGlobals "PLAIN_KINDS" = some (some (.ref p1))) (lP : K.lookup p1 = some ⟨.type "tuple", d1, .seq i1 n1, l1⟩) (sP : strsOf i1.toList = some (T7.map formS)) (zP : i1.size ≤ 64)
    (aK : PySem.W.nsIn K mainGlobals "KEYWORDS" = some (some (.ref p2))) (lK : K.lookup p2 = some ⟨.type "tuple", d2, .seq i2 n2, l2⟩) (sK : strsOf i2.toList = some kwS) (zK : i2.size ≤ 64) :
    ∃ fd : FuncData, (∀ (s : Shared) (us : List Value), us.length = (["a", "b"] : List Str).length → BindsTo s fd ⟨us, []⟩ ((["a", "b"] : List Str).zip us)) ∧ ∀ base : Heap, K.In base → base.Ns mainGlobals mg → FnOk P w K mg base CX0 140 fa fd ["a", "b"] (spTop K) := by
  have F := flt_mk X G aC xL b c
  have T := mk_TDk X G c F
  have N := ntk_mk X G aN bN
  have hPl : TupT K mg "PLAIN_KINDS" (T7.map fun r => V.str (formS r)) := by
    have q := tupT_mk X G aP lP sP (Nat.le_trans zP (by rw [sizeLine_eq]; decide))
    rw [List.map_map] at q
    exact q
  have hKw : TupT K mg "KEYWORDS" (kwS.map V.str) := tupT_mk X G aK lK sK (Nat.le_trans zK (by rw [sizeLine_eq]; decide))
  have e := hfa.symm.trans T.agree.g
  cases e
  refine ⟨fdA K (ga K "agree"), fun s us hu => ?_, fun base _ _ => ?_⟩
  · obtain ⟨oc, od, kV, doc, pm, an, cdv, ct, osl, hfd, _, _⟩ := T.agree.f.ex
    rw [hfd]
    exact match us, hu with | [_, _], _ => .of_eq rfl
  · have R := ok_desk (P := P) (w := w) (base := base) T N hPl hKw
    exact R.imp fun vs H Q E h => h nl
end
theorem ints_bytes : ∀ {ns : List Int}, (∀ n ∈ ns, 0 ≤ n ∧ n ≤ 255) → ∃ b : Sw.Bytes, toInts b = ns ∧ b.length = ns.length
  | [], _ => ⟨[], rfl, rfl⟩
  | n :: ns, h => by
    obtain ⟨b, e, l⟩ := ints_bytes (ns := ns) fun x hx => h x (by simp [hx])
    obtain ⟨h1, h2⟩ := h n (by simp)
    refine ⟨UInt8.ofNat n.toNat :: b, ?_, by simp [l]⟩
    show (((UInt8.ofNat n.toNat).toNat : Nat) : Int) :: toInts b = n :: ns
    rw [e, UInt8.toNat_ofNat', Nat.mod_eq_of_lt (by omega)]
    congr 1
    omega
theorem toInts_byV (b : Sw.Bytes) : (toInts b).map V.int = byV b := by
  unfold toInts byV
  rw [List.map_map]
  rfl
theorem trL_of {K : PySem.W.Frag} {H : Hp} {a : Addr} {xs : List V} (hno : noLst K = true) (h : SqL K H a xs) : TrL H a xs := by
  rcases h with h | ⟨o, its, n, hl, hc, _⟩
  · exact h
  · exact absurd hc (noLst_at hno hl)
theorem arg_bytes {ns : List Int} (h : (PySem.W.Codec.inLen 0 8192 ns && ns.all (PySem.W.Codec.inInt 0 255)) = true) : ∃ b : Sw.Bytes, toInts b = ns ∧ b.length ≤ 8192 := by
  rw [Bool.and_eq_true] at h
  obtain ⟨b, e, l⟩ := ints_bytes (ns := ns) fun n hn => by
    have q := List.all_eq_true.mp h.2 n hn
    unfold PySem.W.Codec.inInt at q
    simpa using q
  refine ⟨b, e, ?_⟩
  rw [l]
  exact (PySem.W.Codec.inNat_iff.mp h.1).2
theorem s_case (K : PySem.W.Frag) (H : Hp) (xs : List V) (a : PySem.W.Codec.denoteAll PySem.Challenge.rw_judgedrules_s04_agree.args) (hwi : PySem.W.Codec.withinAll PySem.Challenge.rw_judgedrules_s04_agree.args a = true)
    (hx : DwAll K H xs (PySem.W.Codec.encAll PySem.Challenge.rw_judgedrules_s04_agree.args a)) :
    spTop K xs H (fun v H' => Dw K H' v (PySem.Challenge.rw_judgedrules_s04_agree.ret.enc (PySem.W.Codec.app PySem.Challenge.rw_judgedrules_s04_agree.args PySem.Challenge.rw_judgedrules_s04_agree.f a))) fun _ _ _ => False := by
  intro hno
  cases hx with
  | cons h1 hx =>
    cases hx with
    | cons h2 hx =>
      cases hx
      cases h1 with
      | lst s1 d1 =>
        cases h2 with
        | lst s2 d2 =>
          have e1 := ints_dw a.1 _ d1
          have e2 := ints_dw a.2.1 _ d2
          subst e1 e2
          have q : ((PySem.W.Codec.inLen 0 8192 a.1 && a.1.all (PySem.W.Codec.inInt 0 255)) && ((PySem.W.Codec.inLen 0 8192 a.2.1 && a.2.1.all (PySem.W.Codec.inInt 0 255)) && true)) = true := hwi
          rw [Bool.and_eq_true, Bool.and_eq_true (a := (PySem.W.Codec.inLen 0 8192 a.2.1 && a.2.1.all (PySem.W.Codec.inInt 0 255)))] at q
          obtain ⟨b1, f1, l1⟩ := arg_bytes q.1
          obtain ⟨b2, f2, l2⟩ := arg_bytes q.2.1
          refine ⟨_, _, b1, b2, rfl, ?_, ?_, l1, l2, fun H' p _ hp => ?_⟩
          · rw [← toInts_byV, f1]; exact trL_of hno s1
          · rw [← toInts_byV, f2]; exact trL_of hno s2
          · rw [f1, f2] at hp
            exact .lst (SqL.of hp) (dw_ints _)
end Hs
end
section
set_option Elab.async false
set_option linter.all false
set_option maxRecDepth 100000
set_option maxHeartbeats 0
open PySem PySem.W PyProof.Rows
theorem PySem.Challenge.cw_judgedrules_s04_agree_holds : PySem.Challenge.rw_judgedrules_s04_agree.Holds := by
  w_on; k_headS; (case hw => exact ⟨[.list [], .list []], by decide +kernel, by decide +kernel⟩)
  k_fillS
  refine L2.walk_specK (r := PySem.Challenge.rw_judgedrules_s04_agree) (k := 140) (CX := L2.CX0) (ps := ["a", "b"]) (sp := Hs.spTop) (by decide +kernel) rfl rfl ⟨rfl, by decide, by decide⟩ (fun w h Y => PySem.W.kIn_of Y) ?F ?S (fun _ _ _ _ z => z)
  case F =>
    intro w mg fa h Y KX G hmg
    have hmg' : mg "agree" = some (.ref fa) := hmg
    refine' Hs.main_mk KX G hmg' ?c ?b ?bN ?nl ?aN ?aC ?xL ?aP ?lP ?sP ?zP ?aK ?lK ?sK ?zK
    (case c => show _ = _; kernel_rfl)
    (case b => kernel_rfl)
    (case bN => kernel_rfl)
    (case nl => kernel_rfl)
    (case aN => k_is)
    (case aC => k_is); (case xL => k_is); (case aP => k_is); (case lP => k_is); (case aK => k_is); (case lK => k_is)
    (case sP => kernel_rfl); (case sK => kernel_rfl); (case zP => decide); (case zK => decide)
  case S =>
    intro K H xs a hO hwi hask hx
    exact Hs.s_case K H xs a hwi hx
end
