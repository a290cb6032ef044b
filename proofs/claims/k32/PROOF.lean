import PyProof.Rows.All
import Wide.All
import OpenK.AllK
import Wide.FinOn
import HandS.ForMost
import HandS.Exc
import HandS.ExcOwn
import HandS.ExcInit
import HandS.ExcIs
import HandS.Defaults
import HandS.Spec
import HandS.Ends
import HandS.HeadEnd
import HandS.ExcField
import HandS.MakeKwOnly
import KE.KStateDown
import HandS.Head0
import HandS.Head1
import HandS.Head2
import HandS.HeadHook1
import HandS.HeadHook2
import HandS.HeadHook3
import HandS.List
import HandS.Dict
import HandS.ExcValue
import HandS.Star
import HandS.Lambda
import HandS.HeadHook4
import HandS.EndBits
import KE.KNestM
import HandS.IsInst
import HandS.Text
import HandS.StrMore
import HandS.NoneIn
import PyProof.CollectIter
import PyProof.MakeMany
import KE.KUnpack
import HandS.Walk
import KE.IntTextLaws
import HandS.More
import HandS.Iter
import KE.GoesMore
import HandS.Strs
import HandS.SortInts
import HandS.DictComp
import HandS.Style
import HandS.Small
import KE.DataEq
import HandS.Steps
import HandS.Flow
import PySem.Challenge.RW_rowvault_k32_units_written_and_read
set_option Elab.async false
set_option linter.all false
set_option maxRecDepth 100000
set_option maxHeartbeats 4000000
/-! Defs that are only called where no guard of a repr is under way: the promise, the rule by the body, the call. -/
namespace L2.RV
open PySem PySem.Spec PyProof.Rows
structure FnG (P : Program) (w : World) (K : PySem.W.Frag) (mg : Str → Option Value) (base : Heap) (CX : CXT) (k : Nat) (f : Addr) (fd : FuncData) (ps : List Str) (sp : Sp) : Prop where
  many : ∀ vs H Q E, sp vs H Q E → vs.length = ps.length
  go : ∀ (A : Around) (outer : List Env) (s : Shared) (H : Hp) (args : Args) (us : List Value) (vs : List V) (Q : VK) (E : XK), A.guards = some [] → Room k A → Env0 P w K mg base A outer s H →
    BindsTo s fd args (ps.zip us) → Vals vs us → sp vs H Q E → codeAny (model P w) A (.call (.ref f) args) (CR CX outer P w H s Q E) s
section
variable {P : Program} {w : World} {K : PySem.W.Frag} {mg : Str → Option Value} {base : Heap} {CX : CXT} {k : Nat} {f : Addr} {fd : FuncData} {ps : List Str} {sp : Sp}
theorem FnG.of (F : FnOk P w K mg base CX k f fd ps sp) : FnG P w K mg base CX k f fd ps sp :=
  ⟨F.len, fun A o s H args us vs Q E _ hr => F.run A o s H args us vs Q E hr⟩
theorem fnG_of {name qual : Str} {params : Arguments} {body : List Stmt} {scope : Scope} {dV kV doc pm cdv ct oc : Value} {an od : Option Addr} {osl : Array (Option Value)} {N : List Str}
    (lk : K.lookup f = some ⟨oc, od, .func (PySem.W.fnOf name qual params body scope dV kV doc pm an cdv ct), osl⟩) (hc : PySem.W.codeIn K cdv qual = true) (S : FnScope N ps scope)
    (many : ∀ vs H Q E, sp vs H Q E → vs.length = ps.length)
    (hb : ∀ (A : Around) (outer : List Env) (s : Shared) (H : Hp) (vs : List V) (Q : VK) (E : XK), A.guards = some [] → Room k (A.deeper (envOfC qual scope s.heap.objs.size f cdv)) → sp vs H Q E →
      ∃ t, PSs (cxOf CX P w K mg base N qual scope f cdv A outer s H E) body t ∧ t { nx := fun _ H' => Q .non H', rt := Q } (start N vs) H) :
    FnG P w K mg base CX (k + 1) f (PySem.W.fnOf name qual params body scope dV kV doc pm an cdv ct) ps sp := by
  constructor
  · exact many
  intro A outer s H args us vs Q E hg room en bnd rel hsp
  have kept : ∀ b o, base.get? b = some o → s.heap.get? b = some o := fun b o e => (en.bs b o e).1
  have inK : K.In s.heap := en.mod.kin.keeps kept
  have loc : ∀ y ∈ ps.zip us, scope.names.lookup y.1 = some .local ∨ (scope.names.lookup y.1 = some .cell ∧ ((cellsFrom (s.heap.objs.size + 1) scope.names []).lookup y.1).isSome = true) := by
    rintro ⟨n, v⟩ hy
    cases S.par n (List.of_mem_zip hy).1 with
    | inl q => exact Or.inl q
    | inr q => exact Or.inr ⟨q, PySem.W.cellsFrom_some _ _ _ (.inl q)⟩
  apply codeAny_call_function (fd := PySem.W.fnOf name qual params body scope dV kV doc pm an cdv ct) room.depth (inK _ _ lk) rfl S.co S.gen rfl (PySem.W.codeRec_of inK hc)
  apply bnd
  apply wpAny_newFunctionEnv_cells S.kind loc
  intro env he s1 x
  subst he
  refine ⟨(en.mod.nolimit.keeps kept).keeps x.toInCall.keep, ?_⟩
  apply codeAny_func
  obtain ⟨t, ht, hq⟩ := hb A outer s H vs Q E hg (room.deeper _) hsp
  have J : Inv (cxOf CX P w K mg base N qual scope f cdv A outer s H E) [] (start N vs) H s1 := inv_start S room.hd en (many _ _ _ _ hsp) rel x
  refine wpAny_mono (ht.run [] s1 (start N vs) H _ J hq) ?_ fun e s' hs => hs
  intro fl s' hs
  cases fl with
  | ret u =>
    obtain ⟨v, σ', H', J', rv, q⟩ := hs
    exact ⟨v, H', J'.os, J'.bare, J'.base, J'.hok, rv, q⟩
  | next =>
    obtain ⟨σ', H', J', q⟩ := hs
    exact ⟨.non, H', J'.os, J'.bare, J'.base, J'.hok, rfl, q⟩
  | brk =>
    obtain ⟨_, _, _, q⟩ := hs
    exact q.elim
  | cont =>
    obtain ⟨_, _, _, q⟩ := hs
    exact q.elim
end
section
variable {P : Program} {w : World} {K : PySem.W.Frag} {mg : Str → Option Value} {base : Heap} {x qual : Str} {params : Arguments} {body : List Stmt} {scope : Scope} {dvs : List V} {kws : List (Str × V)} {f : Addr} {fd : FuncData}
theorem okG {CX : CXT} {N ps : List Str} {k : Nat} {sp : Sp} (F : FunD K x qual params body scope dvs kws f fd) (S : FnScope N ps scope) (many : ∀ vs H Q E, sp vs H Q E → vs.length = ps.length)
    (hb : ∀ (cdv : Value) (A : Around) (outer : List Env) (s : Shared) (H : Hp) (vs : List V) (Q : VK) (E : XK), A.guards = some [] → Room k (A.deeper (envOfC qual scope s.heap.objs.size f cdv)) → sp vs H Q E →
      ∃ t, PSs (cxOf CX P w K mg base N qual scope f cdv A outer s H E) body t ∧ t { nx := fun _ H' => Q .non H', rt := Q } (start N vs) H) : FnG P w K mg base CX (k + 1) f fd ps sp := by
  obtain ⟨oc, od, dV, kV, doc, pm, an, cdv, ct, osl, rfl, lk, hcd, _, _⟩ := F.ex
  exact fnG_of lk hcd S many fun A outer s H vs Q E hg hr hsp => hb cdv A outer s H vs Q E hg hr hsp
end
section
variable {X : Cx} {CX : CXT} {k : Nat} {f : Addr} {fd : FuncData} {ps : List Str} {sp : Sp} {dvs : List V} {ds : List Value} {E : XK} {x : Str} {p pos : Pos} {e : Expr} {es : List Expr} {t : TA}
/-- a guarded def is called from a body that stands so too -/
theorem goG {pins : List (Addr × Obj)} {σ : St} {H : Hp} {s : Shared} {Q : VK} {us : List Value} {vs : List V} (F : FnG X.prog X.w X.K X.mg X.base CX k f fd ps sp) (hg : X.A.guards = some []) (hr : Room k X.A) (hb : Binds X.K fd ps ds) (hd : Vals dvs ds)
    (hx : Passes CX X E) (I : Inv X pins σ H s) (r : Vals vs us) (h : sp (vs ++ dvs) H Q E) : wpAny (model X.prog X.w) X.A (call (.ref f) us) (EP X pins σ Q) X.xe s := by
  have both : Vals (vs ++ dvs) (us ++ ds) := r.append hd
  have len : (us ++ ds).length = ps.length := both.length.symm.trans (F.many _ _ _ _ h)
  apply wpAny_call
  refine codeAny_mono (F.go X.A X.stack s H ⟨us, []⟩ (us ++ ds) (vs ++ dvs) Q E hg hr I.env0 (hb s us I.kIn len) both h) ?_
  intro r s' hq
  match r, hq with
  | .error e, hq => exact hx pins σ H s e s' I hq
  | .ok (.ret u), hq => exact I.after hq
  | .ok .next, hq => exact hq.elim
  | .ok .brk, hq => exact hq.elim
  | .ok .cont, hq => exact hq.elim
theorem pe_callG (F : FnG X.prog X.w X.K X.mg X.base CX k f fd ps sp) (hgu : X.A.guards = some []) (hr : Room k X.A) (hg : Gl X x) (hm : X.mg x = some (.ref f)) (hk : PySem.W.keepIn X.K (.ref f) = true) (hb : Binds X.K fd ps ds) (hd : Vals dvs ds) (hx : Passes CX X E)
    (ha : PA X (e :: es) t) (hdb : (x == ("__debug__" : Str)) = false := by decide) (he : starEach (e :: es) X.env = (false, eval e X.env) :: starEach es X.env := by rfl) (hpl : (backTo pos (starEach es X.env)).any (·.1) = false := by rfl) :
    PE X (.Call (.Name x p) (e :: es) [] pos) (tCall sp dvs E t) := by
  constructor
  intro pins s σ H Q I h
  apply wpAny_Call_Name_kw
  refine ld_glob I hg hm ?_ hdb
  refine PySem.W.callWith_K (h₀ := X.base) I.ok.mod.kin hk ?_ he hpl
  refine thn (ha.run pos pins s σ H _ I h) ?_
  rintro us s1 ⟨vs, H1, I1, r, q⟩
  exact ⟨I1.kIn, goG F hgu hr hb hd hx I1 r q⟩
end
end L2.RV
set_option Elab.async false
set_option linter.all false
set_option maxRecDepth 100000
set_option maxHeartbeats 4000000
/-! The end of a law's proof where its def is guarded. -/
namespace L2.RV
open PySem PySem.Spec PyProof.Rows
abbrev listObj (vs : List Value) : Obj := { cls := .type "list", data := .seq vs.toArray }
theorem lawG {P : Program} {w : World} {K : PySem.W.Frag} {mg mb : Str → Option Value} {CX : CXT} {k : Nat} {fa a : Addr} {fd : FuncData} {x : Str} {sp : Sp} {s : Shared} {vs : List Value} {ns : List Int}
    (KX : K.In s.heap) (G : s.heap.Ns mainGlobals mg) (B : s.heap.Ns builtinsNs mb) (hB : ∀ x : Str, x ≠ "__name__" → mb x = bootBuiltins x) (lim : s.heap.NoLimit) (gens : s.gens = #[])
    (at_ : s.heap.get? a = some (listObj vs)) (areI : IntsAre vs ns) (few : ns.length ≤ sizeLine) (room : Room k callerA)
    (F : ∀ base : Heap, K.In base → base.Ns mainGlobals mg → FnG P w K mg base CX k fa fd [x] sp) (bind : ∀ (s : Shared) (u : Value), BindsTo s fd ⟨[u], []⟩ [(x, u)])
    (hsp : ∀ H : Hp, SqL K H a (ns.map V.int) → sp [.ref a] H (fun v _ => v = .bl true) fun _ _ _ => False)
    (no : ∀ H e s', CX [] H s (fun _ _ _ => False) e s' → False) :
    codeAny (model P w) callerA (.call (.ref fa) ⟨[.ref a], []⟩) (fun r s' => r = .ok (.ret (.bool true)) ∧ OldK s.heap s'.heap ∧ s'.os = s.os ∧ AllBare s'.gens) s := by
  have vals : Vals (ns.map V.int) vs := vals_ints areI
  have short : (ns.map V.int).length ≤ sizeLine := by rw [List.length_map]; exact few
  have size : vs.toArray.size ≤ sizeLine := by rw [List.size_toArray, areI.length]; exact few
  have main : ∀ H : Hp, (∀ b u, H b = some u → b = a ∧ u = .frz (listObj vs) (.lst (ns.map V.int)) ∧ K.lookup a = none) → SqL K H a (ns.map V.int) →
      codeAny (model P w) callerA (.call (.ref fa) ⟨[.ref a], []⟩) (fun r s' => r = .ok (.ret (.bool true)) ∧ OldK s.heap s'.heap ∧ s'.os = s.os ∧ AllBare s'.gens) s := by
    intro H only seq
    have stands : HOk P w H s.heap := by
      intro b u e
      obtain ⟨rfl, rfl, _⟩ := only b u e
      exact ⟨at_, short, vs, _, vals, at_⟩
    have hidden : ∀ {b : Addr} {o : Obj}, s.heap.get? b = some o → (∀ u, H b = some u → False) → (hidT s.heap H).get? b = some o := by
      intro b o e n
      apply hidT_get e
      cases q : H b with
      | none => rfl
      | some u => exact (n u q).elim
    have spaces : ∀ {b : Addr} {m : Str → Option Value}, s.heap.Ns b m → (hidT s.heap H).Ns b m := by
      rintro b m ⟨o, es, ep, e, d, more⟩
      refine ⟨o, es, ep, hidden e fun u q => ?_, d, more⟩
      obtain ⟨rfl, _, _⟩ := only b u q
      rw [at_] at e
      cases e
      have d' : Data.seq vs.toArray _ = Data.dict es ep := d
      cases d'
    have inK : K.In (hidT s.heap H) := by
      intro b o e
      refine hidden (KX b o e) fun u q => ?_
      obtain ⟨rfl, _, z⟩ := only b u q
      rw [z] at e
      cases e
    have entry : Env0 P w K mg (hidT s.heap H) callerA [] s H := by
      refine ⟨rfl, ⟨inK, spaces G, ⟨mb, spaces B, hB⟩, ?_⟩, fun b o e => of_hidT e, Nat.le_of_eq (hidT_size _ _), trivial, fun b hb => ?_, stands, .of_eq gens⟩
      · obtain ⟨mc, h1, h2⟩ := lim
        exact ⟨mc, spaces h1, h2⟩
      · exact absurd (show b ∈ ([] : List Addr) from hb) (by simp)
    refine codeAny_mono ((F _ inK (spaces G)).go callerA [] s H ⟨[.ref a], []⟩ [.ref a] [.ref a] _ _ rfl room entry (bind s (.ref a)) (.cons rfl .nil) (hsp H seq)) ?_
    intro r s' h
    match r, h with
    | .error e, h => exact (no H e s' h).elim
    | .ok .next, h => exact h.elim
    | .ok .brk, h => exact h.elim
    | .ok .cont, h => exact h.elim
    | .ok (.ret u), h =>
      obtain ⟨v, H', os, bare, un, stands', rel, q⟩ := h
      have q' : v = .bl true := q
      subst q'
      obtain rfl : u = Value.bool true := rel
      refine ⟨rfl, OldK.of_keep fun b o e => ?_, os, bare⟩
      cases q : H b with
      | none => exact un.keep b o e q (fun z => absurd (show b ∈ ([] : List Addr) from z) (by simp)) (by simp)
      | some u =>
        obtain ⟨rfl, rfl, _⟩ := only b u q
        obtain ⟨e2, _⟩ := stands' b _ (un.frzs b _ _ q)
        rw [at_] at e
        cases e
        exact e2
  cases old : K.lookup a with
  | some o =>
    have e := KX a o old
    rw [at_] at e
    cases e
    refine main (fun _ => none) (fun b u z => ?_) (.inr ⟨_, vs.toArray, _, old, rfl, rfl, rfl, size, by simpa using vals⟩)
    have z' : (none : Option HO) = some u := z
    cases z'
  | none =>
    refine main (fun b => if b = a then some (.frz (listObj vs) (.lst (ns.map V.int))) else none) (fun b u z => ?_) (.inl (.inr ⟨listObj vs, if_pos rfl⟩))
    by_cases hb : b = a
    · have z' := (if_pos hb).symm.trans z
      cases z'
      exact ⟨hb, rfl, old⟩
    · have z' := (if_neg hb).symm.trans z
      cases z'
theorem walkG {l : PySem.W.OpenLaw} {n k : Nat} {q : Program} {loose : List Str} {XP : (Str → Option Value) → Heap → Prop} {YP : World → Heap → Prop} {d : DefRec} {CX : CXT} {x : Str}
    (hn : l.most = some n) (hn2 : n ≤ sizeLine) (hdf : d.params.defaults = []) (hr : Room k callerA)
    (F : ∀ (w : World) (mg : Str → Option Value) (fa : Addr) (h : Heap), YP w h → h.Ns mainGlobals mg → mg d.name = some (.ref fa) →
      ∃ (K : PySem.W.Frag) (fd : FuncData) (sp : Sp), K.In h ∧ (∀ (s : Shared) (u : Value), BindsTo s fd ⟨[u], []⟩ [(x, u)]) ∧
        (∀ (H : Hp) (a : Addr) (ns : List Int), ns.length ≤ n → SqL K H a (ns.map V.int) → sp [.ref a] H (fun v _ => v = .bl true) fun _ _ _ => False) ∧
        ∀ base : Heap, K.In base → base.Ns mainGlobals mg → FnG l.prog w K mg base CX k fa fd [x] sp)
    (no : ∀ (H : Hp) (s : Shared) (e : Value) (s' : Shared), CX [] H s (fun _ _ _ => False) e s' → False) :
    PySem.W.WalkO q loose XP YP l.row.toRowW d [] (fun f vs => PySem.call f vs) := by
  apply Att.attach_call hn hdf
  intro w s₀ s₁ mg mb fa o pm cd doc a vs ns G Y ho hd hcd hmg hobj hints hlen hg
  obtain ⟨K, fd, sp, KX, hb, hs, hF⟩ := F w mg fa _ Y G.T.g hmg
  exact lawG KX G.T.g G.T.b G.T.builtins G.T.nolimit hg hobj hints (Nat.le_trans hlen hn2) hr hF hb (fun H hS => hs H a ns hlen hS) fun H e s' => no H s₁ e s'
end L2.RV
set_option Elab.async false
set_option linter.all false
set_option maxRecDepth 100000
set_option maxHeartbeats 4000000
/-! An own exception class over ValueError called with keywords: at the library's level. -/
namespace PySem
namespace RVX
open PySem.HandSPX PySem.W PySem.Calls PyProof.Rows
section
variable {prog : Program} {w : World} {M : Model} {A : Around} {E : Value → Shared → Prop} {R : Result → Shared → Prop} {h : Heap} {g : Array GenState} {d : Drawn} {t : Nat} {os : OsState}
variable {nm q : Str} {C N : Addr} {bs bm bmB : List Value} {hdct : Bool} {sn : List Str} {sub : List Value} {ab : Bool} {col : Option Bool} {dd : Option Addr} {k0 k1 k2 k3 k5 : Option Value} {B newId initId : String}
  {us : List Value} {kw : List (Str × Value)}
theorem kwNewLook (F : ExcBaseFacts B newId initId bmB) (hT : ∀ X : String, bm.contains (.type X) = bmB.contains (.type X)) {Q : Unit → Shared → Prop}
    (hC : h.get? C = some (excClassObj nm q C N bs bm hdct sn sub ab col dd k0 k1 k2 k3 k5 newId)) (hq : Q () ⟨h, g, d, t, os⟩) : wpAny M A (checkBuiltinCall newId ⟨.ref C :: us, kw⟩) Q E ⟨h, g, d, t, os⟩ := by
  have hB : (Value.ref C :: bm).contains (.type B) = true := by rw [List.contains_cons, hT, F.hasB, Bool.or_true]
  have st := F.noStar
  simp only [checkBuiltinCall, F.newKind, F.newSplit, F.newRow]
  repeat (first
    | refine wpAny_loadPart_at hC ?_
    | (refine wpAny_isSubtype_exc hC ?_; rw [hB])
    | refine wpAny_staticBase_exc hC ?_
    | refine wpAny_madeBy_exc hC ?_
    | simp only [bne_self_eq_false, Bool.false_eq_true, if_false]
    | wp_step)
  exact hq
theorem kwTypeLook {Q : Unit → Shared → Prop} (hC : h.get? C = some (excClassObj nm q C N bs bm hdct sn sub ab col dd k0 k1 k2 k3 k5 newId)) (hq : Q () ⟨h, g, d, t, os⟩) :
    wpAny M A (checkBuiltinCall "type.__call__" ⟨.ref C :: us, kw⟩) Q E ⟨h, g, d, t, os⟩ := by
  have s := tc_sub
  have ty : (⟨h, g, d, t, os⟩ : Shared).TypeIs (.ref C) "type" := ⟨_, hC, rfl⟩
  simp only [checkBuiltinCall, tc_kind, tc_split]
  repeat (any_goals (first
    | assumption
    | with_reducible refine wpAny_loadPart_at hC ?_
    | with_reducible refine wpAny_onRaise ?_
    | with_reducible refine wpAny_map ?_
    | wp_step))
theorem kwNew (F : ExcBaseFacts B newId initId bmB) (hT : ∀ X : String, bm.contains (.type X) = bmB.contains (.type X)) (hC : h.get? C = some (excClassObj nm q C N bs bm hdct sn sub ab col dd k0 k1 k2 k3 k5 newId)) (few : us.length ≤ sizeLine)
    (hq : R (.ok (.ret (.ref (h.objs.size + 1)))) ⟨(h.push (W.kdv_tup us)).push (excO C h.objs.size), g, d, t, os⟩) : codeAny (model prog w) A (.builtin newId ⟨.ref C :: us, kw⟩) R ⟨h, g, d, t, os⟩ := by
  have ends := F.ends
  have inB : (Value.ref C :: bm).contains (.type B) = true := by rw [List.contains_cons, hT, F.hasB, Bool.or_true]
  have inA : (Value.ref C :: bm).contains (.type "AttributeError") = false := by rw [List.contains_cons, hT, F.noAttr]; rfl
  have inN : (Value.ref C :: bm).contains (.type "NameError") = false := by rw [List.contains_cons, hT, F.noName]; rfl
  apply codeAny_builtinAt F.entry
  unfold Builtin.«BaseException.__new__»
  apply wpAt_bind
  show wpAt _ _ _ (stack >>= _) _ _ _
  apply wpAt_bind
  apply wpAt_stack
  intro p below
  apply wpAt_of_wpAny
  wp_walk
  apply wpAt_of_wpAny
  rw [F.owner]
  repeat (first
    | with_reducible refine wpAny_madeHere_exc F.canon hC ?_
    | with_reducible refine wpAny_loadPart_at hC ?_
    | (with_reducible refine wpAny_isSubtype_exc hC ?_; first | rw [inB] | rw [inA] | rw [inN])
    | wp_step)
  show R _ _
  rw [Heap.size_push]
  exact hq
theorem kwTypeCall (F : ExcBaseFacts B newId initId bmB) (hT : ∀ X : String, bm.contains (.type X) = bmB.contains (.type X)) {fI : Addr} {Q : Fin → Shared → Prop} (hC : h.get? C = some (excClassObj nm q C N bs bm hdct sn sub ab col dd k0 k1 k2 k3 k5 newId))
    (hi : W.Looks (model prog w) h (typeLookup (.ref C) "__init__") (some (.ref fI))) (hb : ∀ self, W.Looks (model prog w) h (bindSpecial (.ref fI) self) (.ref fI, [self])) (few : us.length ≤ sizeLine)
    (hq : codeAny (model prog w) A (.call (.ref fI) ⟨.ref (h.objs.size + 1) :: us, kw⟩)
      (fun r s' => match r with | .ok (.ret v) => v = .none ∧ Q (.done (.ret (.ref (h.objs.size + 1)))) s' | .ok _ => False | .error e => E e s') ⟨(h.push (W.kdv_tup us)).push (excO C h.objs.size), g, d, t, os⟩) :
    wpAny (model prog w) A (Builtin.«type.__call__» ⟨.ref C :: us, kw⟩) Q E ⟨h, g, d, t, os⟩ := by
  repeat (first
    | with_reducible refine wpAny_loadPart_at hC ?_
    | with_reducible refine wpAny_madeBy_exc hC ?_
    | wp_step)
  apply codeAny_call_builtin_code (Code.quiet_builtin _ F.quiet)
  apply kwNewLook F hT hC
  apply kwNew F hT hC few
  show wpAny _ _ _ _ _ _
  have keep : ∀ b o, h.get? b = some o → ((h.push (W.kdv_tup us)).push (excO C h.objs.size)).get? b = some o := fun b o e => Heap.get?_push_of_some _ (Heap.get?_push_of_some _ e)
  have hC1 := keep _ _ hC
  have made : ((h.push (W.kdv_tup us)).push (excO C h.objs.size)).get? (h.objs.size + 1) = some (excO C h.objs.size) := by heap_get
  have own : (Value.ref C :: bm).contains (.ref C) = true := by simp
  have i1 := hi.keeps keep
  have b1 := (hb (.ref (h.objs.size + 1))).keeps keep
  unfold isInstance
  repeat (first
    | with_reducible refine wpAny_loadPart_at made ?_
    | (with_reducible refine wpAny_isSubtype_exc hC1 ?_; rw [own])
    | wp_step)
  show wpAny _ _ (typeLookup (.ref C) _) _ _ _
  apply i1.at
  apply wpAny_holding
  apply wpAny_bind
  apply b1.at
  apply wpAny_bind
  apply wpAny_call
  refine codeAny_mono hq ?_
  intro r s' z
  rcases r with e | (v | _ | _ | _) <;> first | exact z | exact z.elim | skip
  obtain ⟨rfl, z⟩ := z
  first
    | exact wpAny_pure (wpAny_pure z)
    | (wp_walk; exact z)
theorem kwCall (F : ExcBaseFacts B newId initId bmB) (hT : ∀ X : String, bm.contains (.type X) = bmB.contains (.type X)) {fI : Addr} (hC : h.get? C = some (excClassObj nm q C N bs bm hdct sn sub ab col dd k0 k1 k2 k3 k5 newId))
    (hi : W.Looks (model prog w) h (typeLookup (.ref C) "__init__") (some (.ref fI))) (hb : ∀ self, W.Looks (model prog w) h (bindSpecial (.ref fI) self) (.ref fI, [self])) (few : us.length ≤ sizeLine)
    (hq : codeAny (model prog w) (A.under (.builtin "type.__call__" ⟨.ref C :: us, kw⟩)) (.call (.ref fI) ⟨.ref (h.objs.size + 1) :: us, kw⟩) (W.InitBack (h.objs.size + 1) R) ⟨(h.push (W.kdv_tup us)).push (excO C h.objs.size), g, d, t, os⟩) :
    codeAny (model prog w) A (.call (.ref C) ⟨us, kw⟩) R ⟨h, g, d, t, os⟩ := by
  have l1 := tc_lookup
  have l2 := tc_bind (.ref C)
  have ty : (⟨h, g, d, t, os⟩ : Shared).TypeIs (.ref C) "type" := ⟨_, hC, rfl⟩
  apply codeAny_of_tree
  show wpAny _ _ (callAny (.ref C) _) _ _ _
  repeat (any_goals (first
    | assumption
    | with_reducible refine wpAny_loadPart_at hC ?_
    | wp_step))
  refine ⟨rfl, ?_⟩
  apply codeAny_call_builtin_at (Code.quiet_builtin _ (by decide +kernel)) entry_typeCall
  apply kwTypeLook hC
  apply kwTypeCall F hT hC hi hb few
  refine codeAny_mono hq ?_
  intro r s' z
  rcases r with e | (v | _ | _ | _) <;> exact z
end
end RVX
end PySem
set_option Elab.async false
set_option linter.all false
set_option maxRecDepth 100000
set_option maxHeartbeats 4000000
/-! Own exceptions as values: what the class must say, isinstance of one. -/
namespace PySem.W
open PySem PySem.Spec PySem.Calls PyProof.Rows
section
variable {prog : Program} {w : World} {A : Around} {E : Value → Shared → Prop} {s : Shared} {K : Frag} {x D : Addr} {ox : Obj} {od : Option Obj}
theorem rvClass {Q : Option Value → Shared → Prop} (ga : findIn K (.ref D) "__getattribute__" = some (some (.builtin "BaseException.__getattribute__"))) (gg : findIn K (.ref D) "__getattr__" = some none) (sb : subIn K (.ref D) (.type "BaseException") = some true)
    (hd : hasDictIn K D = true) (ca : findIn K (.ref D) "__class__" = some (some (.builtin "object.__class__")))
    (cg : specialIn K (.builtin "object.__class__") "__get__" = some (some (.builtin "getset_descriptor.__get__"))) (ct : takesIn K (.builtin "object.__class__") = some true) (mo : mroIn K D (.type "object") = some true)
    (X : K.In s.heap) (I : InstAt s.heap x ox D od) (h : Q (some (.ref D)) { s with toks := s.toks + 1 }) : wpAny (model prog w) A (getAttr? (.ref x) "__class__") Q E s := by
  have fd : findObj K D od "__class__" = some (.bind (.builtin "getset_descriptor.__get__") (.builtin "object.__class__")) := by
    obtain ⟨cd, hc, _⟩ := any_some hd
    unfold findObj
    rw [hc, Option.bind_some, ca, Option.bind_some]
    simp [cg, ct]
  obtain ⟨hp, g, d, t, os⟩ := s
  have ty := I.type (M := model prog w)
  have la := looks_findIn (M := model prog w) X ga
  have lg := looks_findIn (M := model prog w) X gg
  have lf := looks_find (M := model prog w) X I fd
  have sub : Looks (model prog w) hp (isInstance (.ref x) (.type "BaseException")) true := ty.andThen (looks_subIn X sb)
  have n0 : (false && onTheHeap (Value.builtin "BaseException.__getattribute__")) = false := rfl
  have n2 : (Value.builtin "BaseException.__getattribute__" == Value.builtin "object.__getattribute__") = false := by decide +kernel
  have n1 : (onTheHeap (Value.ref D) && Value.builtin "BaseException.__getattribute__" == Value.builtin "object.__getattribute__") = false := by rw [n2]; rfl
  unfold getAttr? getAttrBy? getAttrBy
  apply wpAny_bind
  apply wpAny_mkText
  apply wpAny_bind
  apply wpAny_attempt
  apply wpAny_holding
  apply wpAny_bind
  apply ty.at
  apply wpAny_bind
  apply la.at
  show wpAny _ _ (if (onTheHeap (Value.ref D) && Value.builtin "BaseException.__getattribute__" == Value.builtin "object.__getattribute__") = true then _ else _) _ _ _
  rw [n1, if_neg Bool.false_ne_true]
  unfold getAttrByItsOwn hookBefore
  apply wpAny_bind
  rw [if_pos (show onTheHeap (Value.ref D) = true from rfl)]
  apply lg.at
  apply wpAny_bind
  apply wpAny_attempt
  apply wpAny_holding
  unfold callGetattribute
  rw [n0, if_neg Bool.false_ne_true]
  unfold boundAndCalled
  rw [PySem.F.excAttr_ValueError.ga.bind (.ref x)]
  apply wpAny_bind
  apply wpAny_pure
  show wpAny _ _ (call (.builtin "BaseException.__getattribute__") [.ref x, .str "__class__" t]) _ _ _
  refine wpAny_call (codeAny_call_builtin PySem.F.excAttr_ValueError.ga.plain PySem.F.entry_bexc_ga ?_)
  refine @check_slot (model prog w) _ _ ⟨hp, g, d, t + 1, os⟩ "BaseException.__getattribute__" "BaseException" "__getattribute__" (.ref x) [.str "__class__" t] [] _ (by decide +kernel) (by decide +kernel) sub (PySem.F.args_bexc_ga (.ref x) (.str "__class__" t)) ?_
  unfold Builtin.«object.__getattribute__»
  refine wpAny_bind (wpAny_of_eq (a := ((Value.ref x : Value), [Value.str "__class__" t])) (by first | rfl | (simp only [slotArgs]; rfl)) ?_)
  apply wpAny_bind
  apply wpAny_pure
  apply wpAny_bind
  apply ty.at
  apply wpAny_bind
  apply lf.at
  show wpAny _ _ (holding [Value.builtin "object.__class__"] (call (.builtin "getset_descriptor.__get__") [.builtin "object.__class__", .ref x, .ref D]) >>= ret) _ _ _
  refine wpAny_bind (wpAny_holding (wpAny_call (class_get (s := ⟨hp, g, d, t + 1, os⟩) (ox := ox) (od := od) X I mo ?_)))
  apply wpAny_pure
  show wpAny _ _ (handedOut (.ref D)) _ _ _
  rw [handedOut_of (v := .ref D) rfl]
  first
    | exact wpAny_pure (wpAny_pure h)
    | exact wpAny_pure h
    | exact wpAny_pure (wpAny_bind (wpAny_pure (wpAny_pure h)))
end
end PySem.W
namespace L2.RV
open PySem PySem.Spec PyProof.Rows
theorem kitE {K : PySem.W.Frag} {x D : Addr} {ox : Obj} {od : Option Obj} (c : ExcC K D) : PySem.W.KitX K (.ref x) (.ref D) (fun h => PySem.W.InstAt h x ox D od) := by
  have isC : ∃ cd, PySem.W.clsIn K D = some cd := by
    obtain ⟨cd, hc, _⟩ := PySem.W.any_some c.hd
    exact ⟨cd, hc⟩
  refine ⟨fun _ _ _ I => I.type, fun M h X I => ?_, fun h tp dd its n sl X at_ => ?_, fun X I k => PySem.W.rvClass c.hg c.hk c.hs c.hd c.ha c.hn c.ht c.hm X I k⟩
  · obtain ⟨cd, hc⟩ := isC
    unfold PySem.W.clsIn at hc
    split at hc
    · rename_i ho
      intro A' Q' E' s' k q
      unfold isType loadHead
      exact wpAny_bind (wpAny_loadPart (k _ _ (X _ _ ho)) (wpAny_pure q))
    · cases hc
  · apply Bool.eq_false_iff.mpr
    intro q
    obtain rfl : D = tp := Value.ref.inj (beq_iff_eq.mp q)
    obtain ⟨cd, hc⟩ := isC
    unfold PySem.W.clsIn at hc
    split at hc
    · rename_i ho
      have z := (X _ _ ho).symm.trans at_
      cases z
    · cases hc
/-- an exception that is not raised stands at e: its class C, its fields fs (none: it has no dict) -/
def ErrAt (H : Hp) (e C : Addr) (fs : List (Str × V)) : Prop := (fs = [] ∧ H e = some (exo e C none)) ∨ ∃ d, H e = some (exo e C (some d)) ∧ H d = some (exd d fs)
theorem ErrAt.same {H H' : Hp} {e C : Addr} {fs : List (Str × V)} (x : ErrAt H e C fs) (s : Same H H') : ErrAt H' e C fs := by
  rcases x with ⟨n, x⟩ | ⟨d, x, y⟩
  · exact .inl ⟨n, s _ _ x⟩
  · exact .inr ⟨d, s _ _ x, s _ _ y⟩
section
variable {X : Cx} {pins : List (Addr × Obj)} {σ : L2.St} {H : Hp} {s : Shared} {e C : Addr} {fs : List (Str × V)}
theorem ErrAt.inst (x : ErrAt H e C fs) (I : Inv X pins σ H s) : ∃ ox od, PySem.W.InstAt s.heap e ox C od ∧ ∀ f, (od = none ∧ fs.lookup f = none) ∨ ∃ o r, od = some o ∧ PySem.W.lookIn f o = some r ∧ RelO (fs.lookup f) r := by
  rcases x with ⟨rfl, x⟩ | ⟨d, x, y⟩
  · obtain ⟨t1, ho⟩ := exo_at I.hok x
    exact ⟨_, none, ⟨ho, rfl, rfl, trivial⟩, fun f => .inl ⟨rfl, rfl⟩⟩
  · obtain ⟨t1, ho⟩ := exo_at I.hok x
    obtain ⟨mA, hns, rel⟩ := exd_at I.hok y
    have hns1 : s.heap.Ns1 d mA := hns
    obtain ⟨o, hd, hl⟩ := lookIn_ns hns1
    exact ⟨_, some o, ⟨ho, rfl, rfl, hd⟩, fun f => .inr ⟨o, _, rfl, hl f, rel f⟩⟩
end
/-- isinstance(e, c) of such an exception -/
def rIsX (K : PySem.W.Frag) : List V → Hp → VK → Prop := fun xs H Q => ∃ (e C : Addr) (fs : List (Str × V)) (c : V) (cv : Value) (b : Bool), xs = [.ref e, c] ∧ ErrAt H e C fs ∧ ExcC K C ∧ (∀ u, RelV c u → u = cv) ∧ PySem.W.kitOne K (.ref C) cv = some b ∧ Q (.bl b) H
theorem call_isX {X : Cx} : CallR X (.builtin "isinstance") (rIsX X.K) := by
  intro pins s σ H xs us Q I r h
  obtain ⟨e, C, fs, c, cv, b, rfl, at_, cl, hcv, k, q⟩ := h
  obtain ⟨u, u', rfl, ru, ru'⟩ := vals2 r
  cases ru
  obtain rfl := hcv _ ru'
  obtain ⟨ox, od, J, _⟩ := at_.inst I
  exact PySem.W.kia_one (kitE cl) I.kIn J k (fun z => nomatch z) fun tk => ⟨.bl b, H, I.kept (t' := tk) fun _ _ z => z, rfl, q⟩
/-- e.f of such an exception -/
def tXF (K : PySem.W.Frag) (f : Str) (te : TE) : TE := fun σ H Q => te σ H fun x H1 => ∃ (e C : Addr) (fs : List (Str × V)) (v : V), x = .ref e ∧ ErrAt H1 e C fs ∧ XfC K C ∧ PySem.W.findIn K (.ref C) f = some none ∧ fs.lookup f = some v ∧ Q v H1
theorem pe_xF {X : Cx} {e : Expr} {te : TE} {pos : Pos} {f : Str} (he : PE X e te) (hb : attributeBase e f X.env (eval e X.env) = eval e X.env := by rfl) : PE X (.Attribute e f pos) (tXF X.K f te) := by
  constructor
  intro pins s σ H Q I h
  apply attr_of hb
  refine thn (he.run pins s σ H _ I h) ?_
  rintro u s1 ⟨x, H1, I1, rx, e1, C, fs, v, rfl, at_, T, no, l, q⟩
  cases rx
  obtain ⟨ox, od, J, look⟩ := at_.inst I1
  rcases look f with ⟨_, z⟩ | ⟨o, r, rfl, hl, rel⟩
  · rw [l] at z
    cases z
  · obtain ⟨u, hu, ru⟩ := RelO.some_of (v := v) (o := r) (by rw [← l]; exact rel)
    exact HandSPX.exc_get I1.kIn J T.ga T.gg T.exC (PySem.W.findObj_own T.hdC no rfl (by rw [hl, hu])) (handed_of ru) ⟨v, H1, I1.tok _, ru, q⟩
end L2.RV
set_option Elab.async false
set_option linter.all false
set_option maxRecDepth 100000
set_option maxHeartbeats 4000000
/-! Own exceptions as values: they are made, by position and by name. -/
namespace L2.RV
open PySem PySem.Spec PyProof.Rows
/-- the promise of an __init__ that stores its parameters ff as fields of these names -/
def spErr (K : PySem.W.Frag) (ff : List Str) : Sp := fun vs H Q _ => ∃ (a C : Addr) (ws : List V), vs = .ref a :: ws ∧ ws.length = ff.length ∧ OexC K C ∧ (∀ f ∈ ff, PySem.W.findIn K (.ref C) f = some none) ∧ H a = some (exo a C none) ∧
  ∀ (H' : Hp) (fs : List (Str × V)), (∀ b o, b ≠ a → H b = some o → H' b = some o) → ErrAt H' a C fs → (∀ f v, (ff.zip ws).lookup f = some v → fs.lookup f = some v) → Q .non H'
/-- what is asked of the class and its __init__ -/
structure MkX (P : Program) (w : World) (K : PySem.W.Frag) (mg : Str → Option Value) (base : Heap) (k : Nat) (x : Str) (C fI : Addr) (fd : FuncData) (ff : List Str) : Prop where
  gC : mg x = some (.ref C)
  o : OexC K C
  no : ∀ f ∈ ff, PySem.W.findIn K (.ref C) f = some none
  iC : PySem.W.findIn K (.ref C) "__init__" = some (some (.ref fI))
  tI : PySem.W.typeIn K (.ref fI) = some (.type "function")
  F : FnOk P w K mg base CX0 k fI fd (("self" : Str) :: ff) (spErr K ff)
section
variable {X : Cx} {k : Nat} {fI C : Addr} {fd : FuncData} {ff ks : List Str} {x : Str}
/-- the call of the class: us by position, ws by the names ks; bound, they are as, the fields' values ts -/
theorem run_mkX {pins : List (Addr × Obj)} {σ : L2.St} {H : Hp} {s : Shared} {Q : VK} {us ws as : List Value} {ts : List V} (M : MkX X.prog X.w X.K X.mg X.base k x C fI fd ff) (hr : Room (k + 1) X.A)
    (to : ∀ (s : Shared) (u : Value), X.K.In s.heap → BindsTo s fd ⟨u :: us, ks.zip ws⟩ ((("self" : Str) :: ff).zip (u :: as))) (I : Inv X pins σ H s) (rt : Vals ts as) (l : ts.length = ff.length) (few : us.length ≤ 1000)
    (h : ∀ (a : Addr) (H3 : Hp) (fs : List (Str × V)), H a = none → Same H H3 → ErrAt H3 a C fs → (∀ f v, (ff.zip ts).lookup f = some v → fs.lookup f = some v) → Q (.ref a) H3) :
    wpAny (model X.prog X.w) X.A (call (.ref C) us (ks.zip ws)) (EP X pins σ Q) X.xe s := by
  obtain ⟨nm, q, N, bs, bm, sn, sub, ab, col, dd, k0, k1, k2, k3, k5, hC, hbm⟩ := M.o.cls
  obtain ⟨hp, gs, dr, tk, os⟩ := s
  have few2 : us.length ≤ sizeLine := by rw [sizeLine_eq]; omega
  have up : hp.objs.size ≤ hp.objs.size + 1 := Nat.le_succ _
  have fresh : H (hp.objs.size + 1) = none := I.hok.fresh up
  have keep : ∀ b o, hp.get? b = some o → ((hp.push (PySem.W.kdv_tup us)).push (PySem.HandSPX.excO C hp.objs.size)).get? b = some o := fun b o e => Heap.get?_push_of_some _ (Heap.get?_push_of_some _ e)
  have made : ((hp.push (PySem.W.kdv_tup us)).push (PySem.HandSPX.excO C hp.objs.size)).get? (hp.objs.size + 1) = some (PySem.HandSPX.excO C hp.objs.size) := by heap_get
  have J : Inv X pins σ (upd H (hp.objs.size + 1) (exo (hp.objs.size + 1) C none)) ⟨(hp.push (PySem.W.kdv_tup us)).push (PySem.HandSPX.excO C hp.objs.size), gs, dr, tk, os⟩ :=
    I.laid (t' := tk) (a := hp.objs.size + 1) (o := exo (hp.objs.size + 1) C none) (h' := (hp.push (PySem.W.kdv_tup us)).push (PySem.HandSPX.excO C hp.objs.size)) keep up (exo_ok made)
  have both : Vals (V.ref (hp.objs.size + 1) :: ts) (Value.ref (hp.objs.size + 1) :: as) := .cons rfl rt
  have asked : spErr X.K ff (V.ref (hp.objs.size + 1) :: ts) (upd H (hp.objs.size + 1) (exo (hp.objs.size + 1) C none)) (fun v H2 => v = .non ∧ Q (.ref (hp.objs.size + 1)) H2) E0 := by
    refine ⟨_, C, _, rfl, l, M.o, M.no, upd_same, fun H' fs sm at_ look => ⟨rfl, h _ H' fs fresh (fun b o z => ?_) at_ look⟩⟩
    have nb : b ≠ hp.objs.size + 1 := ne_of_none z fresh
    exact sm b o nb (by rw [upd_ne nb]; exact z)
  apply wpAny_call
  refine PySem.RVX.kwCall F.excBase_ValueError (fun Y => PySem.HandSPX.refsVE_contains Y bm hbm) (I.kIn _ _ hC) (PySem.W.looks_findIn I.kIn M.iC) (fun self => PySem.W.bind_fn I.kIn self M.tI) few2 ?_
  refine codeAny_mono (M.F.run _ X.stack _ _ ⟨Value.ref (hp.objs.size + 1) :: us, ks.zip ws⟩ (Value.ref (hp.objs.size + 1) :: as) _ _ E0 (hr.make C us (ks.zip ws)) (J.env0.make C us (ks.zip ws)) (to _ _ J.kIn) both asked) ?_
  intro r' s' hq
  match r', hq with
  | .error er, hq => exact hq.elim
  | .ok .next, hq => exact hq.elim
  | .ok .brk, hq => exact hq.elim
  | .ok .cont, hq => exact hq.elim
  | .ok (.ret u), hq =>
    obtain ⟨v, H2, J2, rv, ev, q2⟩ := J.after hq
    subst ev
    exact ⟨rv, ⟨V.ref (hp.objs.size + 1), H2, J2, rfl, q2⟩⟩
end
/-! ### the __init__ of one and of two fields -/
def args1 (f : Str) (p1 p2 : Pos) : Arguments := { posonlyargs := [], args := [{ arg := "self", annotation := none, pos := p1 }, { arg := f, annotation := none, pos := p2 }], vararg := none, kwonlyargs := [], kw_defaults := [], kwarg := none, defaults := [] }
def body1 (f : Str) (q1 q2 q3 q4 : Pos) : List Stmt := [.Assign [.Attribute (.Name "self" q1) f q2] (.Name f q3) q4]
def scope1 (f : Str) : Scope := { kind := .function, names := [("self", .local), (f, .local)], isGenerator := false, isCoroutine := false, more := [] }
def args2 (f g : Str) (p1 p2 p3 : Pos) : Arguments := { posonlyargs := [], args := [{ arg := "self", annotation := none, pos := p1 }, { arg := f, annotation := none, pos := p2 }, { arg := g, annotation := none, pos := p3 }], vararg := none, kwonlyargs := [], kw_defaults := [], kwarg := none, defaults := [] }
def body2 (f g : Str) (q1 q2 q3 q4 r1 r2 r3 r4 : Pos) : List Stmt := [.Assign [.Attribute (.Name "self" q1) f q2] (.Name f q3) q4, .Assign [.Attribute (.Name "self" r1) g r2] (.Name g r3) r4]
def scope2 (f g : Str) : Scope := { kind := .function, names := [("self", .local), (f, .local), (g, .local)], isGenerator := false, isCoroutine := false, more := [] }
theorem look1 {f g : Str} {v : V} (h : f = g) : ([(g, v)] : List (Str × V)).lookup f = some v := by
  subst h
  simp [List.lookup]
section
variable {P : Program} {w : World} {K : PySem.W.Frag} {mg : Str → Option Value} {base : Heap} {qual f g : Str} {fI : Addr} {fd : FuncData} {p1 p2 p3 q1 q2 q3 q4 r1 r2 r3 r4 : Pos}
theorem ok_init1 (F : FunD K "__init__" qual (args1 f p1 p2) (body1 f q1 q2 q3 q4) (scope1 f) [] [] fI fd) (S : FnScope ["self", f] ["self", f] (scope1 f)) (v0 : (scope1 f).names.lookup ("self" : Str) = some .local) (v1 : (scope1 f).names.lookup f = some .local)
    (d1 : (f == ("__debug__" : Str)) = false) (c1 : (f == ("__classdict__" : Str)) = false) (hs : ∀ env, swapsWith (.Name f q3) (some (.Attribute (.Name "self" q1) f q2)) q4.line env = pure false) :
    FnOk P w K mg base CX0 1 fI fd ["self", f] (spErr K [f]) := by
  refine F.ok S (fun vs H Q E h => ?_) (fun cdv A outer s H vs Q E hr h => ?_)
  · obtain ⟨a, C, ws, rfl, l, _⟩ := h
    exact congrArg Nat.succ l
  · obtain ⟨a, C, ws, rfl, l, T, no, at_, k⟩ := h
    obtain ⟨v, rfl⟩ : ∃ v, ws = [v] := List.length_eq_one_iff.mp l
    refine ⟨_, PSs.nox (pss_one (ps_ost (pe_var (i := 0) rfl (.inl v0)) (pe_var (i := 1) rfl (.inl v1) d1 c1) (hs _))), ?_⟩
    refine ⟨v, rfl, .ref a, rfl, a, C, rfl, T, no f (List.mem_singleton.mpr rfl), .inl ⟨at_, fun dx nd ne => ?_⟩⟩
    refine k _ [(f, v)] (fun b o nb z => ?_) (.inr ⟨dx, upd_same, by rw [upd_ne ne, upd_same]⟩) (fun f' v' z => z)
    rw [upd_ne nb, upd_ne (ne_of_none z nd)]
    exact z
theorem ok_init2 (F : FunD K "__init__" qual (args2 f g p1 p2 p3) (body2 f g q1 q2 q3 q4 r1 r2 r3 r4) (scope2 f g) [] [] fI fd) (S : FnScope ["self", f, g] ["self", f, g] (scope2 f g)) (ng : f ≠ g) (v0 : (scope2 f g).names.lookup ("self" : Str) = some .local)
    (v1 : (scope2 f g).names.lookup f = some .local) (v2 : (scope2 f g).names.lookup g = some .local) (d1 : (f == ("__debug__" : Str)) = false) (c1 : (f == ("__classdict__" : Str)) = false) (d2 : (g == ("__debug__" : Str)) = false) (c2 : (g == ("__classdict__" : Str)) = false)
    (h1 : ∀ env, swapsWith (.Name f q3) (some (.Attribute (.Name "self" q1) f q2)) q4.line env = pure false) (h2 : ∀ env, swapsWith (.Name g r3) (some (.Attribute (.Name "self" r1) g r2)) r4.line env = pure false) :
    FnOk P w K mg base CX0 1 fI fd ["self", f, g] (spErr K [f, g]) := by
  refine F.ok S (fun vs H Q E h => ?_) (fun cdv A outer s H vs Q E hr h => ?_)
  · obtain ⟨a, C, ws, rfl, l, _⟩ := h
    exact congrArg Nat.succ l
  · obtain ⟨a, C, ws, rfl, l, T, no, at_, k⟩ := h
    obtain ⟨v, u, rfl⟩ : ∃ v u, ws = [v, u] := by
      match ws, l with
      | [v, u], _ => exact ⟨v, u, rfl⟩
    refine ⟨_, PSs.nox (pss_cons (ps_ost (pe_var (i := 0) rfl (.inl v0)) (pe_var (i := 1) rfl (.inl v1) d1 c1) (h1 _)) (pss_one (ps_ost (pe_var (i := 0) rfl (.inl v0)) (pe_var (i := 2) rfl (.inl v2) d2 c2) (h2 _)))), ?_⟩
    refine ⟨v, rfl, .ref a, rfl, a, C, rfl, T, no f (by simp), .inl ⟨at_, fun dx nd ne => ?_⟩⟩
    refine ⟨u, rfl, .ref a, rfl, a, C, rfl, T, no g (by simp), .inr ⟨dx, [(f, v)], upd_same, by rw [upd_ne ne, upd_same], by show 1 ≤ 900; decide, ?_⟩⟩
    refine k _ [(g, u), (f, v)] (fun b o nb z => ?_) (.inr ⟨dx, by rw [upd_ne ne.symm, upd_same], upd_same⟩) (fun f' v' z => ?_)
    · have nbd := ne_of_none z nd
      rw [upd_ne nbd, upd_ne nb, upd_ne nbd]
      exact z
    · have z' : List.lookup f' [(f, v), (g, u)] = some v' := z
      rw [lookup_put] at z'
      rw [lookup_put]
      by_cases e1 : f' = f
      · rw [if_pos e1] at z'
        cases z'
        rw [if_neg (fun e2 => ng (e1.symm.trans e2)), e1]
        exact look1 rfl
      · rw [if_neg e1, lookup_put] at z'
        by_cases e2 : f' = g
        · rw [if_pos e2] at z' ⊢
          exact z'
        · rw [if_neg e2] at z'
          cases z'
end
end L2.RV
set_option Elab.async false
set_option linter.all false
set_option maxRecDepth 100000
set_option maxHeartbeats 4000000
/-! What a law's proof asks of the heap behind the top, as one Bool. -/
namespace L2.RV
open PySem PySem.Spec PyProof.Rows
/-! ### the hook -/
def obsR (chk : PySem.W.Frag → Bool) (fn : List He.DefD) (K : PySem.W.Frag) : He.AlD := (chk K && fn.all fun d => d.ok K, fn.map fun d => He.fnW K d.at_)
def SaysR (chk : PySem.W.Frag → Bool) (fn : List He.DefD) (K : PySem.W.Frag) : Prop := obsR chk fn K = He.valD fn
def obsRG (n : Nat) (chk : PySem.W.Frag → Bool) (fn : List He.DefD) (g : Addr → Option Obj) : He.AlD := obsR chk fn (He.frG g (He.asD g n))
def hookR (n : Nat) (chk : PySem.W.Frag → Bool) (fn : List He.DefD) : PySem.W.Hook where
  α := He.AlD
  obs := fun s => obsRG n chk fn s.heap.get?
  val := fun _ => He.valD fn
  says := fun _ h => ∃ K : PySem.W.Frag, K.In h ∧ SaysR chk fn K
  of := fun _ _ e => ⟨_, He.frG_in, e⟩
  keeps := fun _ _ _ ⟨K, hK, c⟩ k => ⟨K, PySem.W.Frag.In.keeps hK k, c⟩
theorem obsRG_eq {n : Nat} {chk : PySem.W.Frag → Bool} {fn : List He.DefD} {g : Addr → Option Obj} {s : Shared} (h : ∀ a, g a = s.heap.get? a) : obsRG n chk fn g = (hookR n chk fn).obs s := by
  have e : g = s.heap.get? := funext h
  rw [e] <;> rfl
section
variable {chk : PySem.W.Frag → Bool} {fn : List He.DefD} {K : PySem.W.Frag}
theorem SaysR.look (c : SaysR chk fn K) : chk K = true := (Bool.and_eq_true_iff.mp (congrArg (fun z : He.AlD => z.1) c)).1
theorem SaysR.def_ (c : SaysR chk fn K) (i : Nat) {d : He.DefD} (h : fn[i]? = some d := by rfl) : ∃ fd, FunD K d.name d.qual d.params d.body d.scope (d.dvs K) (d.kws K) (He.fAd K d.at_) fd := by
  have all := (Bool.and_eq_true_iff.mp (congrArg (fun z : He.AlD => z.1) c)).2
  have same : fn.map (fun d => He.fnW K d.at_) = fn.map He.DefD.val := congrArg (fun z : He.AlD => z.2) c
  have at_ := congrArg (fun l => l[i]?) same
  simp only [List.getElem?_map, h, Option.map_some, Option.some.injEq] at at_
  exact He.DefD.funD at_ (List.all_eq_true.mp all d (List.mem_of_getElem? h))
end
/-! ### an own exception class -/
def eqOO (a b : Option (Option Value)) : Bool := decide (a = b)
def oexB (K : PySem.W.Frag) (C : Addr) : Bool := match K.lookup C with
  | some ⟨.type c, _, .cls cd, sl⟩ => (match cd.mro, sl.toList with
    | .ref C' :: bm, [_, _, _, _, some (.builtin n), _] => decide (c = "type") && (decide (C' = C) && (decide (n = "ValueError.__new__") && (!cd.hasDel && (cd.hasDict && PySem.HandSPX.refsVE bm))))
    | _, _ => false)
  | _ => false
def clsB (K : PySem.W.Frag) (C : Addr) : Bool := oexB K C && (eqOO (PySem.W.findIn K (.ref C) "__setattr__") (some (some (.builtin "object.__setattr__"))) && (decide (PySem.W.subIn K (.ref C) (.type "BaseException") = some true) &&
  (decide (PySem.W.typeIn K (.ref C) = some (.type "type")) && (PySem.W.keepIn K (.ref C) && (eqOO (PySem.W.findIn K (.ref C) "__getattribute__") (some (some (.builtin "BaseException.__getattribute__"))) && (eqOO (PySem.W.findIn K (.ref C) "__getattr__") (some none) &&
  (PySem.W.hasDictIn K C && (eqOO (PySem.W.findIn K (.ref C) "__class__") (some (some (.builtin "object.__class__"))) && (eqOO (PySem.W.specialIn K (.builtin "object.__class__") "__get__") (some (some (.builtin "getset_descriptor.__get__"))) &&
  (decide (PySem.W.takesIn K (.builtin "object.__class__") = some true) && decide (PySem.W.mroIn K C (.type "object") = some true)))))))))))
theorem ba2 {a b : Bool} (h : (a && b) = true) : a = true ∧ b = true := Bool.and_eq_true_iff.mp h
theorem oexB_ok {K : PySem.W.Frag} {C : Addr} (h : oexB K C = true) : ∃ nm q N bs bm sn sub ab col dd k0 k1 k2 k3 k5, K.lookup C = some (excClassObj nm q C N bs bm true sn sub ab col dd k0 k1 k2 k3 k5 "ValueError.__new__") ∧ PySem.HandSPX.refsVE bm = true := by
  unfold oexB at h
  split at h
  · rename_i c dd cd sl look
    split at h
    · rename_i C' bm k0 k1 k2 k3 n k5 hm hs
      obtain ⟨h1, h⟩ := ba2 h
      obtain ⟨h2, h⟩ := ba2 h
      obtain ⟨h3, h⟩ := ba2 h
      obtain ⟨h4, h⟩ := ba2 h
      obtain ⟨h5, h6⟩ := ba2 h
      obtain rfl := of_decide_eq_true h1
      obtain rfl := of_decide_eq_true h2
      obtain rfl := of_decide_eq_true h3
      obtain ⟨nm, bs, mro, ns, qn, hd, sn, sub, ab, col, del⟩ := cd
      dsimp only at hm h4 h5
      subst hm
      have h4' : del = false := by simpa using h4
      subst h4' h5
      obtain ⟨l⟩ := sl
      have hs' : l = [k0, k1, k2, k3, some (.builtin "ValueError.__new__"), k5] := hs
      subst hs'
      exact ⟨nm, qn, ns, bs, bm, sn, sub, ab, col, dd, k0, k1, k2, k3, k5, look, h6⟩
    · cases h
  · cases h
theorem clsB_ok {K : PySem.W.Frag} {C : Addr} (h : clsB K C = true) : OexC K C ∧ ExcC K C ∧ XfC K C := by
  obtain ⟨a0, h⟩ := ba2 h
  obtain ⟨a1, h⟩ := ba2 h
  obtain ⟨a2, h⟩ := ba2 h
  obtain ⟨a3, h⟩ := ba2 h
  obtain ⟨a4, h⟩ := ba2 h
  obtain ⟨a5, h⟩ := ba2 h
  obtain ⟨a6, h⟩ := ba2 h
  obtain ⟨a7, h⟩ := ba2 h
  obtain ⟨a8, h⟩ := ba2 h
  obtain ⟨a9, h⟩ := ba2 h
  obtain ⟨a10, a11⟩ := ba2 h
  exact ⟨⟨oexB_ok a0, of_decide_eq_true a1, of_decide_eq_true a2, of_decide_eq_true a3, a4⟩, ⟨of_decide_eq_true a5, of_decide_eq_true a6, of_decide_eq_true a2, a7, of_decide_eq_true a8, of_decide_eq_true a9, of_decide_eq_true a10, of_decide_eq_true a11⟩,
    ⟨of_decide_eq_true a5, of_decide_eq_true a6, of_decide_eq_true a2, a7⟩⟩
/-- the class x has an __init__ of its own with the fields ff -/
def iniB (K : PySem.W.Frag) (x : Str) (ff : List Str) : Bool := eqOO (PySem.W.findIn K (.ref (He.ga K x)) "__init__") (some (some (.ref (He.fAd K (x, some "__init__"))))) && (decide (PySem.W.typeIn K (.ref (He.fAd K (x, some "__init__"))) = some (.type "function")) &&
  ff.all fun f => eqOO (PySem.W.findIn K (.ref (He.ga K x)) f) (some none))
/-- the module's name x stands for an object -/
def gloB (K : PySem.W.Frag) (x : Str) : Bool := eqOO (PySem.W.nsIn K mainGlobals x) (some (some (.ref (He.ga K x))))
def freeB (K : PySem.W.Frag) (x : Str) : Bool := eqOO (PySem.W.nsIn K mainGlobals x) (some none)
section
variable {K : PySem.W.Frag} {h : Heap} {mg : Str → Option Value} {x : Str} {ff : List Str}
theorem gloB_ok (X : K.In h) (G : h.Ns mainGlobals mg) (c : gloB K x = true) : mg x = some (.ref (He.ga K x)) := PySem.W.mg_of X G (of_decide_eq_true c)
theorem freeB_ok (X : K.In h) (G : h.Ns mainGlobals mg) (c : freeB K x = true) : mg x = none := PySem.W.mg_none_of X G (of_decide_eq_true c)
theorem iniB_ok (c : iniB K x ff = true) : PySem.W.findIn K (.ref (He.ga K x)) "__init__" = some (some (.ref (He.fAd K (x, some "__init__")))) ∧ PySem.W.typeIn K (.ref (He.fAd K (x, some "__init__"))) = some (.type "function") ∧ ∀ f ∈ ff, PySem.W.findIn K (.ref (He.ga K x)) f = some none := by
  obtain ⟨a, c⟩ := ba2 c
  obtain ⟨b, c⟩ := ba2 c
  exact ⟨of_decide_eq_true a, of_decide_eq_true b, fun f m => of_decide_eq_true (List.all_eq_true.mp c f m)⟩
end
end L2.RV
set_option Elab.async false
set_option linter.all false
set_option maxRecDepth 100000
set_option maxHeartbeats 4000000
/-! The hook with the text's dicts, and its tuples. -/
namespace L2.RV
open PySem PySem.Spec PyProof.Rows
/-- a dict of the top: its name, its keys -/
abbrev TabN : Type := Str × List Str
def obsRT (chk : PySem.W.Frag → Bool) (fn : List He.DefD) (ts : List TabN) (K : PySem.W.Frag) : He.AlT := (obsR chk fn K, ts.map fun t => He.dicW K (He.ga K t.1))
def valRT (fn : List He.DefD) (ts : List TabN) (w : World) : He.AlT := (He.valD fn, ts.map fun t => some (He.keysIn w.params t.2))
def SaysRT (chk : PySem.W.Frag → Bool) (fn : List He.DefD) (ts : List TabN) (w : World) (K : PySem.W.Frag) : Prop := obsRT chk fn ts K = valRT fn ts w
def obsRTG (n : Nat) (chk : PySem.W.Frag → Bool) (fn : List He.DefD) (ts : List TabN) (g : Addr → Option Obj) : He.AlT := obsRT chk fn ts (He.frG g (He.asD g n))
def hookRT (n : Nat) (chk : PySem.W.Frag → Bool) (fn : List He.DefD) (ts : List TabN) : PySem.W.Hook where
  α := He.AlT
  obs := fun s => obsRTG n chk fn ts s.heap.get?
  val := fun w => valRT fn ts w
  says := fun w h => ∃ K : PySem.W.Frag, K.In h ∧ SaysRT chk fn ts w K
  of := fun _ _ e => ⟨_, He.frG_in, e⟩
  keeps := fun _ _ _ ⟨K, hK, c⟩ k => ⟨K, PySem.W.Frag.In.keeps hK k, c⟩
theorem obsRTG_eq {n : Nat} {chk : PySem.W.Frag → Bool} {fn : List He.DefD} {ts : List TabN} {g : Addr → Option Obj} {s : Shared} (h : ∀ a, g a = s.heap.get? a) : obsRTG n chk fn ts g = (hookRT n chk fn ts).obs s := by
  obtain rfl : g = s.heap.get? := funext h
  rfl
section
variable {chk : PySem.W.Frag → Bool} {fn : List He.DefD} {ts : List TabN} {w : World} {K : PySem.W.Frag}
theorem SaysRT.d (c : SaysRT chk fn ts w K) : SaysR chk fn K := congrArg (fun z : He.AlT => z.1) c
theorem SaysRT.tab (c : SaysRT chk fn ts w K) (i : Nat) {t : TabN} (h : ts[i]? = some t := by rfl) : ∃ es n, KDict K w (He.ga K t.1) es n := by
  have e : ts.map (fun t => He.dicW K (He.ga K t.1)) = ts.map fun t => some (He.keysIn w.params t.2) := congrArg (fun z : He.AlT => z.2) c
  have e2 := congrArg (fun l => l[i]?) e
  simp only [List.getElem?_map, h, Option.map_some, Option.some.injEq] at e2
  exact He.dicW_ok e2
end
/-- values as written ones -/
def relsB (K : PySem.W.Frag) : List He.Dv → List Value → Bool
  | [], [] => true
  | d :: ds, u :: us => He.relB (d.v K) u && relsB K ds us
  | _, _ => false
theorem relsB_ok {K : PySem.W.Frag} : ∀ {ds : List He.Dv} {us : List Value}, relsB K ds us = true → Vals (ds.map (He.Dv.v K)) us
  | [], [], _ => .nil
  | d :: ds, u :: us, h => by
    obtain ⟨h1, h2⟩ := ba2 h
    exact .cons (He.relB_ok h1) (relsB_ok h2)
  | [], _ :: _, h => by cases h
  | _ :: _, [], h => by cases h
/-- the module's name x stands for this tuple -/
def tupB (K : PySem.W.Frag) (p : Str × List He.Dv) : Bool := match K.lookup (He.ga K p.1) with
  | some ⟨.type c, none, .seq its _, _⟩ => decide (c = "tuple") && (Nat.ble its.size 1000 && relsB K p.2 its.toList)
  | _ => false
theorem tupB_ok {K : PySem.W.Frag} {p : Str × List He.Dv} {H : Hp} (h : tupB K p = true) : SqT K H (He.ga K p.1) (p.2.map (He.Dv.v K)) := by
  unfold tupB at h
  split at h
  · rename_i c its n sl look
    obtain ⟨h1, h⟩ := ba2 h
    obtain ⟨h2, h3⟩ := ba2 h
    obtain rfl := of_decide_eq_true h1
    exact .inr ⟨_, its, n, look, rfl, rfl, Nat.le_trans (Nat.le_of_ble_eq_true h2) (by decide), relsB_ok h3⟩
  · cases h
theorem tupB_ty {K : PySem.W.Frag} {p : Str × List He.Dv} {H : Hp} (h : tupB K p = true) : tyV K "tuple" (.ref (He.ga K p.1)) H := by
  unfold tupB at h
  split at h
  · rename_i c its n sl look
    obtain ⟨h1, h⟩ := ba2 h
    obtain rfl := of_decide_eq_true h1
    exact .inr (.inl ⟨rfl, _, look, rfl, rfl⟩)
  · cases h
end L2.RV
set_option Elab.async false
set_option linter.all false
/-! A world whose one row is told. -/
namespace L2.RV
open PySem
def fixF (f : String → Bool) (r : String) (b : Bool) : String → Bool := fun s => if s = r then b else f s
theorem fixF_eq (f : String → Bool) (r : String) : f = fixF f r (f r) := by
  funext s
  unfold fixF
  split
  · rename_i e
    rw [e]
  · rfl
/-- the world, its answer at the row r being b -/
def fixW (w : World) (r : String) (b : Bool) : World := { w with params := { w.params with followText := fixF w.params.followText r b } }
theorem fixW_eq (w : World) (r : String) : w = fixW w r (w.params.followText r) := by
  obtain ⟨d, p⟩ := w
  unfold fixW
  rw [← fixF_eq]
end L2.RV
set_option Elab.async false
set_option linter.all false
set_option maxRecDepth 100000
set_option maxHeartbeats 4000000
/-! repr of data: what stands in the heap as data, also in dicts. -/
namespace L2.RV
open PySem PySem.Spec PyProof.Rows
/-- all that was tracked is as it was, but at p -/
def Keep (p : Addr) (H H' : Hp) : Prop := ∀ b o, b ≠ p → H b = some o → H' b = some o
theorem Keep.refl {p : Addr} {H : Hp} : Keep p H H := fun _ _ _ h => h
theorem Keep.trans {p : Addr} {H H1 H2 : Hp} (a : Keep p H H1) (b : Keep p H1 H2) : Keep p H H2 := fun c o n h => b c o n (a c o n h)
theorem Keep.of {p : Addr} {H H' : Hp} (s : Same H H') : Keep p H H' := fun b o _ h => s b o h
theorem Keep.upd {p : Addr} {H : Hp} {o : HO} : Keep p H (upd H p o) := fun b u n h => by rw [upd_ne n]; exact h
theorem same_new {H : Hp} {a : Addr} {o : HO} (h : H a = none) : Same H (upd H a o) := fun b u z => by rw [upd_ne (ne_of_none z h)]; exact z
/-- v is the datum d, now and as long as what is tracked stands, but at p -/
def Rds (K : PySem.W.Frag) (p : Addr) (H : Hp) (v : V) (d : PyData) : Prop := ∀ (X : Cx) (pins : List (Addr × Obj)) (σ : L2.St) (H' : Hp) (s : Shared) (u : Value), X.K = K → Keep p H H' → Inv X pins σ H' s → RelV v u → ∃ as, Reads s.heap u d as ∧ sysModules ∉ as
theorem Rds.keep {K : PySem.W.Frag} {p : Addr} {H H' : Hp} {v : V} {d : PyData} (r : Rds K p H v d) (s : Keep p H H') : Rds K p H' v d := fun X pins σ H2 sh u e s2 I ru => r X pins σ H2 sh u e (s.trans s2) I ru
theorem Rds.same {K : PySem.W.Frag} {p : Addr} {H H' : Hp} {v : V} {d : PyData} (r : Rds K p H v d) (s : Same H H') : Rds K p H' v d := r.keep (.of s)
theorem rds_non {K : PySem.W.Frag} {p : Addr} {H : Hp} : Rds K p H .non .none := fun X pins σ H' s u _ _ _ r => by
  cases r
  exact ⟨_, .none, by simp⟩
theorem rds_bl {K : PySem.W.Frag} {p : Addr} {H : Hp} (b : Bool) : Rds K p H (.bl b) (.bool b) := fun X pins σ H' s u _ _ _ r => by
  cases r
  exact ⟨_, .bool b, by simp⟩
theorem rds_int {K : PySem.W.Frag} {p : Addr} {H : Hp} (i : Int) : Rds K p H (.int i) (.int i) := fun X pins σ H' s u _ _ _ r => by
  obtain ⟨t, rfl⟩ := r
  exact ⟨_, .int i t, by simp⟩
theorem rds_str {K : PySem.W.Frag} {p : Addr} {H : Hp} (x : Str) : Rds K p H (.str x) (.str x) := fun X pins σ H' s u _ _ _ r => by
  obtain ⟨t, rfl⟩ := r
  exact ⟨_, .str x t, by simp⟩
inductive RdsA (K : PySem.W.Frag) (p : Addr) (H : Hp) : List V → List PyData → Prop
  | nil : RdsA K p H [] []
  | cons {v : V} {vs : List V} {d : PyData} {ds : List PyData} : Rds K p H v d → RdsA K p H vs ds → RdsA K p H (v :: vs) (d :: ds)
theorem RdsA.reads {K : PySem.W.Frag} {p : Addr} {H : Hp} {X : Cx} {pins : List (Addr × Obj)} {σ : L2.St} {H' : Hp} {s : Shared} (e : X.K = K) (sm : Keep p H H') (I : Inv X pins σ H' s) : ∀ {vs : List V} {ds : List PyData} {us : List Value}, RdsA K p H vs ds → Vals vs us → ∃ as, ReadsAll s.heap us ds as ∧ sysModules ∉ as
  | _, _, _, .nil, .nil => ⟨_, .nil, by simp⟩
  | _, _, _, .cons h1 h2, .cons r1 r2 => by
    obtain ⟨as, q1, n1⟩ := h1 X pins σ H' s _ e sm I r1
    obtain ⟨bs, q2, n2⟩ := RdsA.reads e sm I h2 r2
    exact ⟨_, .cons q1 q2, fun z => (List.mem_append.mp z).elim n1 n2⟩
theorem rds_lst {K : PySem.W.Frag} {p : Addr} {H : Hp} {a : Addr} {xs : List V} {ds : List PyData} (h : H a = some (.lst xs)) (n : a ≠ sysModules) (np : a ≠ p) (r : RdsA K p H xs ds) : Rds K p H (.ref a) (.list ds) := fun X pins σ H' s u e sm I ru => by
  cases ru
  obtain ⟨its, rv, ⟨o, m, ho, hc, _, hd⟩, _⟩ := I.list (SqL.of (sm _ _ np h))
  obtain ⟨as, q, na⟩ := r.reads e sm I rv
  exact ⟨_, .list ho hc hd q, fun z => (List.mem_cons.mp z).elim (fun y => n y.symm) na⟩
theorem rds_tup {K : PySem.W.Frag} {p : Addr} {H : Hp} {a : Addr} {xs : List V} {ds : List PyData} (h : H a = some (.tup xs)) (np : a ≠ p) (r : RdsA K p H xs ds) : Rds K p H (.ref a) (.tuple ds) := fun X pins σ H' s u e sm I ru => by
  cases ru
  obtain ⟨its, rv, ⟨o, ho, hc, m, hd⟩, _⟩ := I.tuple (SqT.of (sm _ _ np h))
  obtain ⟨as, q, na⟩ := r.reads e sm I rv
  exact ⟨_, .tuple ho hc hd q, na⟩
/-- a key of a dict as data -/
def keyD : Key → PyData
  | .inl i => .int i
  | .inr x => .str x
theorem key_reads {h : Heap} {k : Key} {v : Value} (e : keyIs k v = true) : Reads h v (keyD k) [] := by
  rcases keyIs_shape e with ⟨i, t, rfl, rfl⟩ | ⟨x, t, rfl, rfl⟩
  · exact .int i t
  · exact .str x t
theorem pairs_reads {P : Program} {w : World} {h : Heap} : ∀ {es : List DictEntry} {vs : List (Key × Value)}, Pairs (mixKind P w) es vs → ReadsAll h (es.map (·.key)) (vs.map fun p => keyD p.1) [] ∧ es.map (·.val) = vs.map (·.2)
  | _, _, .nil => ⟨.nil, rfl⟩
  | _, _, .cons k e r => by
    obtain ⟨q1, q2⟩ := pairs_reads (h := h) r
    refine ⟨?_, ?_⟩
    · exact .cons (key_reads k) q1
    · rw [List.map_cons, List.map_cons, e, q2]
theorem kv_vals : ∀ {kvs : List (Key × V)} {vs : List (Key × Value)}, KV kvs vs → Vals (kvs.map (·.2)) (vs.map (·.2)) ∧ kvs.map (·.1) = vs.map (·.1)
  | _, _, .nil => ⟨.nil, rfl⟩
  | _, _, .cons h r => by
    obtain ⟨q1, q2⟩ := kv_vals r
    refine ⟨.cons h.2 q1, ?_⟩
    rw [List.map_cons, List.map_cons, h.1, q2]
theorem rds_dct {K : PySem.W.Frag} {p : Addr} {H : Hp} {a : Addr} {kvs : List (Key × V)} {ds : List PyData} (h : H a = some (.dK kvs)) (np : a ≠ p) (r : RdsA K p H (kvs.map (·.2)) ds) : Rds K p H (.ref a) (.dict ((kvs.map fun p => keyD p.1).zip ds)) := fun X pins σ H' s u e sm I ru => by
  cases ru
  obtain ⟨_, nm, vs, rel, o, es, ep, ho, ex, hd, _, hp, _⟩ := dk_of I.hok (sm _ _ np h)
  obtain ⟨rv, ek⟩ := kv_vals rel
  obtain ⟨q1, q2⟩ := pairs_reads (h := s.heap) hp
  obtain ⟨as, q, na⟩ := r.reads e sm I rv
  have l : (kvs.map fun p => keyD p.1).length = ds.length := by
    have l1 : ∀ {vs : List V} {ds : List PyData}, RdsA K p H vs ds → vs.length = ds.length := fun {vs ds} z => by
      induction z with
      | nil => rfl
      | cons _ _ ih => exact congrArg Nat.succ ih
    have l2 := l1 r
    rw [List.length_map] at l2 ⊢
    exact l2
  have ek2 : (kvs.map fun p => keyD p.1) = vs.map fun p => keyD p.1 := by
    have z := congrArg (List.map keyD) ek
    rw [List.map_map, List.map_map] at z
    exact z
  refine ⟨_, Reads.dict (as := []) (bs := as) ho ex.1 hd ?_ ?_, ?_⟩
  · rw [List.map_fst_zip (Nat.le_of_eq l), ek2]
    exact q1
  · rw [List.map_snd_zip (Nat.le_of_eq l.symm), q2]
    exact q
  · intro z
    have na2 : sysModules ≠ a := fun y => by
      rw [← y] at nm
      exact absurd nm (by decide)
    rcases List.mem_cons.mp z with y | y
    · exact na2 y
    · exact na y
/-- repr(x) of data -/
def rRepr (K : PySem.W.Frag) : List V → Hp → VK → Prop := fun xs H Q => ∃ p v d, xs = [v] ∧ Rds K p H v d ∧ d.showable = true ∧ d.depth ≤ 60 ∧ d.shown.length ≤ sizeLine ∧ Q (.str d.shown) H
theorem call_repr {X : Cx} (hg : X.A.guards = some []) (hu : X.A.units + 64 < cLine) : CallR X (.builtin "repr") (rRepr X.K) := by
  intro pins s σ H xs us Q I r h
  obtain ⟨p, v, d, rfl, rd, hs, hd, hz, q⟩ := h
  obtain ⟨u, rfl, ru⟩ := vals1 r
  obtain ⟨as, rds, nm⟩ := rd X pins σ H s u rfl Keep.refl I ru
  have fin : ∀ (h' : Heap) (t : Tok) (tk : Nat), (∀ b o, s.heap.get? b = some o → h'.get? b = some o) → EP X pins σ Q (.str d.shown t) { s with heap := h', toks := tk } := fun h' t tk k => ⟨.str d.shown, H, I.kept k, ⟨t, rfl⟩, q⟩
  have same : ∀ (t : Tok) (tk : Nat), EP X pins σ Q (.str d.shown t) { s with toks := tk } := fun t tk => fin s.heap t tk fun _ _ e => e
  have big : ∀ {a : Addr}, Reads s.heap (.ref a) d as → wpAny (model X.prog X.w) X.A (call (.builtin "repr") [.ref a]) (EP X pins σ Q) X.xe s := fun {a} rr => by
    refine repr_of_reads' (h₀ := s.heap) rr hs (fun _ => nm) hg ?_ (fun _ _ e => e) (fun h' u tk k => fin h' u tk k) hz
    have : d.depth + 1 ≤ 64 := Nat.le_trans (Nat.succ_le_succ hd) (by decide)
    omega
  cases rds with
  | none => exact PySem.P.repr_of_none (by
      have z := same s.toks (s.toks + 1)
      simpa only [PyData.shown] using z)
  | bool b => exact PySem.P.repr_of_bool (by
      have z := same s.toks (s.toks + 1)
      simpa only [PyData.shown] using z)
  | int i t => exact PySem.P.repr_of_int (by simpa [PyData.showable] using hs) (by
      have z := same s.toks (s.toks + 1)
      simpa only [PyData.shown] using z)
  | str x t => exact PySem.P.repr_of_str (by
      have z := same s.toks (s.toks + 1)
      simpa only [PyData.shown] using z) (by simpa only [PyData.shown] using hz)
  | list h1 h2 h3 h4 => exact big (.list h1 h2 h3 h4)
  | tuple h1 h2 h3 h4 => exact big (.tuple h1 h2 h3 h4)
  | dict h1 h2 h3 h4 h5 => exact big (.dict h1 h2 h3 h4 h5)
/-- a written list: its place is not that of sys.modules -/
def tLstN (t : TA) : TE := fun σ H Q => t σ H fun xs H1 => xs.length ≤ sizeLine ∧ ∀ p, H1 p = none → p ≠ sysModules → Q (.ref p) (upd H1 p (.lst xs))
theorem pe_lstN {X : Cx} {es : List Expr} {t : TA} {pos : Pos} (h : PA X es t) : PE X (.List es pos) (tLstN t) := by
  constructor
  intro pins s σ H Q I hq
  apply wpAny_List_spliced
  refine thn (h.run pos pins s σ H _ I hq) ?_
  rintro us s1 ⟨xs, H1, I1, r, z, q⟩
  refine ⟨by rw [← r.length]; exact z, ?_⟩
  have fresh : H1 s1.heap.objs.size = none := I1.hok.fresh (Nat.le_refl _)
  exact ⟨.ref s1.heap.objs.size, upd H1 s1.heap.objs.size (.lst xs), I1.laid (t' := s1.toks) (fun b u e => Heap.get?_push_of_some _ e) (Nat.le_refl _) ⟨z, us, 0, r, Heap.get?_push_size _ rfl⟩, rfl, q _ fresh (Nat.ne_of_gt I1.big)⟩
end L2.RV
set_option Elab.async false
set_option linter.all false
set_option maxRecDepth 100000
set_option maxHeartbeats 4000000
/-! One rule for each sign, whatever stands beside it. -/
namespace L2.RV
open PySem PySem.Spec PyProof.Rows
section
variable {X : Cx}
def rAddS : R2 := fun x y H Q => ∃ i j, x = .str i ∧ y = .str j ∧ i.length + j.length ≤ sizeLine ∧ Q (.str (i ++ j)) H
def rPlus : R2 := fun x y H Q => rI0 (fun i j => .int (i + j)) x y H Q ∨ (rCat x y H Q ∨ rAddS x y H Q)
theorem op_plus : OpR X (binaryOp .Add) rPlus := op_add.or (op_cat.or op_add_str)
/-- a text times a written number -/
def rMulS : R2 := fun x y H Q => ∃ z n, x = .str z ∧ y = .int n ∧ MulOk z n ∧ Q (.str (Txt.mul z n)) H
theorem op_mulS : OpR X (binaryOp .Mult) rMulS := by
  intro pins s σ H x y v u Q I rx ry h
  obtain ⟨z, n, rfl, rfl, ok, q⟩ := h
  obtain ⟨t, rfl⟩ := rx
  obtain ⟨t', rfl⟩ := ry
  exact PySem.SB.mul ok fun u k => ⟨.str _, H, I.tok _, ⟨_, rfl⟩, q⟩
def rTimes : R2 := fun x y H Q => rI CMul (fun i j => .int (i * j)) x y H Q ∨ (rRep x y H Q ∨ rMulS x y H Q)
theorem op_times : OpR X (binaryOp .Mult) rTimes := op_mul.or (op_rep.or op_mulS)
def rSame (K : PySem.W.Frag) : R2 := fun x y H Q => rEq x y H Q ∨ rEqD K x y H Q
def rDiff (K : PySem.W.Frag) : R2 := fun x y H Q => rNe x y H Q ∨ rNeD K x y H Q
theorem op_same (hu : X.A.units + 64 < cLine) : OpR X (compareOp .Eq) (rSame X.K) := op_eq.or (op_eqD hu)
theorem op_diff (hu : X.A.units + 64 < cLine) : OpR X (compareOp .NotEq) (rDiff X.K) := op_ne.or (op_neD hu)
end
/-! ### equal data -/
theorem dpA_str {K : PySem.W.Frag} {H : Hp} : ∀ xs : List Str, DpAll K H (xs.map V.str) (xs.map PyData.str)
  | [] => .nil
  | x :: xs => .cons (.str x) (dpA_str xs)
theorem dpA_int {K : PySem.W.Frag} {H : Hp} : ∀ xs : List Int, DpAll K H (xs.map V.int) (xs.map PyData.int)
  | [] => .nil
  | x :: xs => .cons (.int x) (dpA_int xs)
theorem lay_str : ∀ xs : List Str, (xs.all fun x => PyData.strOk x) = true → PyData.canLayAll0 (xs.map PyData.str) = true
  | [], _ => by simp [PyData.canLayAll0]
  | x :: xs, h => by
    obtain ⟨h1, h2⟩ := Bool.and_eq_true_iff.mp (show (PyData.strOk x && xs.all fun x => PyData.strOk x) = true from h)
    have z := lay_str xs h2
    simp [PyData.canLayAll0, PyData.canLay0, z, h1]
theorem lay_int : ∀ xs : List Int, PyData.canLayAll0 (xs.map PyData.int) = true
  | [] => by simp [PyData.canLayAll0]
  | x :: xs => by
    have z := lay_int xs
    simp [PyData.canLayAll0, PyData.canLay0, z]
theorem deep_str : ∀ xs : List Str, PyData.depthAll (xs.map PyData.str) ≤ 1
  | [] => by simp [PyData.depthAll]
  | x :: xs => by
    have z := deep_str xs
    simp only [List.map_cons, PyData.depthAll, PyData.depth]
    omega
theorem deep_int : ∀ xs : List Int, PyData.depthAll (xs.map PyData.int) ≤ 1
  | [] => by simp [PyData.depthAll]
  | x :: xs => by
    have z := deep_int xs
    simp only [List.map_cons, PyData.depthAll, PyData.depth]
    omega
theorem shaped_str {xs : List Str} (h : (xs.all fun x => PyData.strOk x) = true) : SeqAt.shaped (.list (xs.map PyData.str)) = true := by
  have z := deep_str xs
  have e : PyData.canLay0 (.list (xs.map PyData.str)) = true := by simp only [PyData.canLay0]; exact lay_str xs h
  have d : (PyData.list (xs.map PyData.str)).depth ≤ 64 := by simp only [PyData.depth]; omega
  unfold SeqAt.shaped
  rw [e, decide_eq_true d]
  rfl
theorem shaped_int (xs : List Int) : SeqAt.shaped (.list (xs.map PyData.int)) = true := by
  have z := deep_int xs
  have e : PyData.canLay0 (.list (xs.map PyData.int)) = true := by simp only [PyData.canLay0]; exact lay_int xs
  have d : (PyData.list (xs.map PyData.int)).depth ≤ 64 := by simp only [PyData.depth]; omega
  unfold SeqAt.shaped
  rw [e, decide_eq_true d]
  rfl
theorem same_data {d : PyData} (h : SeqAt.shaped d = true) : PyData.eqv d d = true := SeqAt.eqv_refl d (SeqAt.canLay_of_shaped h)
end L2.RV
set_option Elab.async false
set_option linter.all false
set_option maxRecDepth 100000
set_option maxHeartbeats 4000000
/-! The text by places, what is asked of the heap behind the top. -/
namespace L2.K32
open PySem PySem.Spec PyProof.Rows L2.RV
def top (i : Nat) : Stmt := PySem.Challenge.pw_rowvault_k32_units_written_and_read.main.body.getD i (.Pass ⟨0, 0, 0, 0⟩)
abbrev s_is_whole : Stmt := top 2
theorem sc_is_whole : FnScope ["value"] ["value"] (defScope s_is_whole) := ⟨rfl, rfl, rfl, by decide +kernel, rfl, by decide +kernel, by decide +kernel⟩
def d_is_whole : He.DefD := ⟨("is_whole", none), "is_whole", "is_whole", defArgs s_is_whole, defBody s_is_whole, defScope s_is_whole, [], []⟩
abbrev s_is_whole_from : Stmt := top 3
theorem sc_is_whole_from : FnScope ["value", "low", "high"] ["value", "low", "high"] (defScope s_is_whole_from) := ⟨rfl, rfl, rfl, by decide +kernel, rfl, by decide +kernel, by decide +kernel⟩
def d_is_whole_from : He.DefD := ⟨("is_whole_from", none), "is_whole_from", "is_whole_from", defArgs s_is_whole_from, defBody s_is_whole_from, defScope s_is_whole_from, [], []⟩
abbrev s_is_whole_text : Stmt := top 12
theorem sc_is_whole_text : FnScope ["word", "digits"] ["word"] (defScope s_is_whole_text) := ⟨rfl, rfl, rfl, by decide +kernel, rfl, by decide +kernel, by decide +kernel⟩
def d_is_whole_text : He.DefD := ⟨("is_whole_text", none), "is_whole_text", "is_whole_text", defArgs s_is_whole_text, defBody s_is_whole_text, defScope s_is_whole_text, [], []⟩
abbrev s_whole_of : Stmt := top 13
theorem sc_whole_of : FnScope ["word", "digits", "first", "number", "at"] ["word"] (defScope s_whole_of) := ⟨rfl, rfl, rfl, by decide +kernel, rfl, by decide +kernel, by decide +kernel⟩
def d_whole_of : He.DefD := ⟨("whole_of", none), "whole_of", "whole_of", defArgs s_whole_of, defBody s_whole_of, defScope s_whole_of, [], []⟩
abbrev s_words_of : Stmt := top 14
theorem sc_words_of : FnScope ["text", "line"] ["text", "line"] (defScope s_words_of) := ⟨rfl, rfl, rfl, by decide +kernel, rfl, by decide +kernel, by decide +kernel⟩
def d_words_of : He.DefD := ⟨("words_of", none), "words_of", "words_of", defArgs s_words_of, defBody s_words_of, defScope s_words_of, [.int 0], []⟩
abbrev s_is_unit : Stmt := top 21
theorem sc_is_unit : FnScope ["value", "word", "texts", "text", "at"] ["value"] (defScope s_is_unit) := ⟨rfl, rfl, rfl, by decide +kernel, rfl, by decide +kernel, by decide +kernel⟩
def d_is_unit : He.DefD := ⟨("is_unit", none), "is_unit", "is_unit", defArgs s_is_unit, defBody s_is_unit, defScope s_is_unit, [], []⟩
abbrev s_is_number : Stmt := top 22
theorem sc_is_number : FnScope ["word", "at", "value", "low"] ["word", "at", "value"] (defScope s_is_number) := ⟨rfl, rfl, rfl, by decide +kernel, rfl, by decide +kernel, by decide +kernel⟩
def d_is_number : He.DefD := ⟨("is_number", none), "is_number", "is_number", defArgs s_is_number, defBody s_is_number, defScope s_is_number, [], []⟩
abbrev s_unit_of : Stmt := top 23
theorem sc_unit_of : FnScope ["word", "numbers", "at", "number"] ["word", "numbers"] (defScope s_unit_of) := ⟨rfl, rfl, rfl, by decide +kernel, rfl, by decide +kernel, by decide +kernel⟩
def d_unit_of : He.DefD := ⟨("unit_of", none), "unit_of", "unit_of", defArgs s_unit_of, defBody s_unit_of, defScope s_unit_of, [], []⟩
abbrev s_unit_parts : Stmt := top 24
theorem sc_unit_parts : FnScope ["unit", "word", "texts", "text"] ["unit"] (defScope s_unit_parts) := ⟨rfl, rfl, rfl, by decide +kernel, rfl, by decide +kernel, by decide +kernel⟩
def d_unit_parts : He.DefD := ⟨("unit_parts", none), "unit_parts", "unit_parts", defArgs s_unit_parts, defBody s_unit_parts, defScope s_unit_parts, [], []⟩
abbrev s_rank : Stmt := top 25
theorem sc_rank : FnScope ["word", "numbers", "first", "second"] ["word", "numbers"] (defScope s_rank) := ⟨rfl, rfl, rfl, by decide +kernel, rfl, by decide +kernel, by decide +kernel⟩
def d_rank : He.DefD := ⟨("rank", none), "rank", "rank", defArgs s_rank, defBody s_rank, defScope s_rank, [], []⟩
abbrev s_rank_of : Stmt := top 26
theorem sc_rank_of : FnScope ["unit", "word", "numbers"] ["unit"] (defScope s_rank_of) := ⟨rfl, rfl, rfl, by decide +kernel, rfl, by decide +kernel, by decide +kernel⟩
def d_rank_of : He.DefD := ⟨("rank_of", none), "rank_of", "rank_of", defArgs s_rank_of, defBody s_rank_of, defScope s_rank_of, [], []⟩
abbrev s_in_order : Stmt := top 27
theorem sc_in_order : FnScope ["units", "unit", "ranked", "at"] ["units"] (defScope s_in_order) := ⟨rfl, rfl, rfl, by decide +kernel, rfl, by decide +kernel, by decide +kernel⟩
def d_in_order : He.DefD := ⟨("in_order", none), "in_order", "in_order", defArgs s_in_order, defBody s_in_order, defScope s_in_order, [], []⟩
abbrev s_units_text : Stmt := top 28
theorem sc_units_text : FnScope ["units", "ordered"] ["units"] (defScope s_units_text) := ⟨rfl, rfl, rfl, by decide +kernel, rfl, by decide +kernel, by decide +kernel⟩
def d_units_text : He.DefD := ⟨("units_text", none), "units_text", "units_text", defArgs s_units_text, defBody s_units_text, defScope s_units_text, [], []⟩
abbrev s_read_units : Stmt := top 29
theorem sc_read_units : FnScope ["text", "units", "words"] ["text"] (defScope s_read_units) := ⟨rfl, rfl, rfl, by decide +kernel, rfl, by decide +kernel, by decide +kernel⟩
def d_read_units : He.DefD := ⟨("read_units", none), "read_units", "read_units", defArgs s_read_units, defBody s_read_units, defScope s_read_units, [], []⟩
abbrev s_take_units : Stmt := top 30
theorem sc_take_units : FnScope ["words"] ["words"] (defScope s_take_units) := ⟨rfl, rfl, rfl, by decide +kernel, rfl, by decide +kernel, by decide +kernel⟩
def d_take_units : He.DefD := ⟨("take_units", none), "take_units", "take_units", defArgs s_take_units, defBody s_take_units, defScope s_take_units, [], []⟩
abbrev s_take_some_units : Stmt := top 31
theorem sc_take_some_units : FnScope ["words", "taken", "units", "unit"] ["words", "taken"] (defScope s_take_some_units) := ⟨rfl, rfl, rfl, by decide +kernel, rfl, by decide +kernel, by decide +kernel⟩
def d_take_some_units : He.DefD := ⟨("take_some_units", none), "take_some_units", "take_some_units", defArgs s_take_some_units, defBody s_take_some_units, defScope s_take_some_units, [], []⟩
abbrev s_take_unit : Stmt := top 32
theorem sc_take_unit : FnScope ["words", "after", "taken", "names", "numbers", "_", "word", "name", "number"] ["words", "after", "taken"] (defScope s_take_unit) := ⟨rfl, rfl, rfl, by decide +kernel, rfl, by decide +kernel, by decide +kernel⟩
def d_take_unit : He.DefD := ⟨("take_unit", none), "take_unit", "take_unit", defArgs s_take_unit, defBody s_take_unit, defScope s_take_unit, [], []⟩
abbrev s_can_stand : Stmt := top 33
theorem sc_can_stand : FnScope ["word", "numbers", "after", "taken"] ["word", "numbers", "after", "taken"] (defScope s_can_stand) := ⟨rfl, rfl, rfl, by decide +kernel, rfl, by decide +kernel, by decide +kernel⟩
def d_can_stand : He.DefD := ⟨("can_stand", none), "can_stand", "can_stand", defArgs s_can_stand, defBody s_can_stand, defScope s_can_stand, [], []⟩
abbrev s_text_of : Stmt := top 34
theorem sc_text_of : FnScope ["word", "numbers", "number"] ["word", "numbers"] (defScope s_text_of) := ⟨rfl, rfl, rfl, by decide +kernel, rfl, by decide +kernel, by decide +kernel⟩
def d_text_of : He.DefD := ⟨("text_of", none), "text_of", "text_of", defArgs s_text_of, defBody s_text_of, defScope s_text_of, [], []⟩
abbrev s_law_pen : Stmt := top 36
theorem sc_law_pen : FnScope ["_law_script"] ["_law_script"] (defScope s_law_pen) := ⟨rfl, rfl, rfl, by decide +kernel, rfl, by decide +kernel, by decide +kernel⟩
def d_law_pen : He.DefD := ⟨("_law_pen", none), "_law_pen", "_law_pen", defArgs s_law_pen, defBody s_law_pen, defScope s_law_pen, [], []⟩
abbrev s_law_draw : Stmt := top 37
theorem sc_law_draw : FnScope ["_law_pen_here", "_law_many", "_law_turn", "_law_drawn", "_law_stirred", "_law_digit", "_law_great"] ["_law_pen_here", "_law_many"] (defScope s_law_draw) := ⟨rfl, rfl, rfl, by decide +kernel, rfl, by decide +kernel, by decide +kernel⟩
def d_law_draw : He.DefD := ⟨("_law_draw", none), "_law_draw", "_law_draw", defArgs s_law_draw, defBody s_law_draw, defScope s_law_draw, [], []⟩
abbrev s_law_pick : Stmt := top 38
theorem sc_law_pick : FnScope ["_law_pen_here", "_law_some"] ["_law_pen_here", "_law_some"] (defScope s_law_pick) := ⟨rfl, rfl, rfl, by decide +kernel, rfl, by decide +kernel, by decide +kernel⟩
def d_law_pick : He.DefD := ⟨("_law_pick", none), "_law_pick", "_law_pick", defArgs s_law_pick, defBody s_law_pick, defScope s_law_pick, [], []⟩
abbrev s_law_heard : Stmt := top 39
theorem sc_law_heard : FnScope ["_law_ask", "error", "_law_caught", "_law_found"] ["_law_ask"] (defScope s_law_heard) := ⟨rfl, rfl, rfl, by decide +kernel, rfl, by decide +kernel, by decide +kernel⟩
def d_law_heard : He.DefD := ⟨("_law_heard", none), "_law_heard", "_law_heard", defArgs s_law_heard, defBody s_law_heard, defScope s_law_heard, [], []⟩
abbrev s_law_unit : Stmt := top 40
theorem sc_law_unit : FnScope ["_law_pen_here", "_law_word", "_law_number", "_law_other"] ["_law_pen_here"] (defScope s_law_unit) := ⟨rfl, rfl, rfl, by decide +kernel, rfl, by decide +kernel, by decide +kernel⟩
def d_law_unit : He.DefD := ⟨("_law_unit", none), "_law_unit", "_law_unit", defArgs s_law_unit, defBody s_law_unit, defScope s_law_unit, [], []⟩
abbrev s_law_text : Stmt := top 41
theorem sc_law_text : FnScope ["_law_unit_here", "_law_number"] ["_law_unit_here"] (defScope s_law_text) := ⟨rfl, rfl, rfl, by decide +kernel, rfl, by decide +kernel, by decide +kernel⟩
def d_law_text : He.DefD := ⟨("_law_text", none), "_law_text", "_law_text", defArgs s_law_text, defBody s_law_text, defScope s_law_text, [], []⟩
abbrev s_law_made : Stmt := top 42
theorem sc_law_made : FnScope ["_law_unit_here"] ["_law_unit_here"] (defScope s_law_made) := ⟨rfl, rfl, rfl, by decide +kernel, rfl, by decide +kernel, by decide +kernel⟩
def d_law_made : He.DefD := ⟨("_law_made", none), "_law_made", "_law_made", defArgs s_law_made, defBody s_law_made, defScope s_law_made, [], []⟩
abbrev s_law_is_unit : Stmt := top 43
theorem sc_law_is_unit : FnScope ["_law_value", "_law_words", "_law_counts", "_law_at", "_law_word", "_law_sign"] ["_law_value"] (defScope s_law_is_unit) := ⟨rfl, rfl, rfl, by decide +kernel, rfl, by decide +kernel, by decide +kernel⟩
def d_law_is_unit : He.DefD := ⟨("_law_is_unit", none), "_law_is_unit", "_law_is_unit", defArgs s_law_is_unit, defBody s_law_is_unit, defScope s_law_is_unit, [], []⟩
abbrev s_law_rank : Stmt := top 44
theorem sc_law_rank : FnScope ["_law_unit_here", "_law_numbers"] ["_law_unit_here"] (defScope s_law_rank) := ⟨rfl, rfl, rfl, by decide +kernel, rfl, by decide +kernel, by decide +kernel⟩
def d_law_rank : He.DefD := ⟨("_law_rank", none), "_law_rank", "_law_rank", defArgs s_law_rank, defBody s_law_rank, defScope s_law_rank, [], []⟩
abbrev s_law_ordered : Stmt := top 45
theorem sc_law_ordered : FnScope ["_law_units", "_law_found", "_law_rank_here", "_law_unit_here"] ["_law_units"] (defScope s_law_ordered) := ⟨rfl, rfl, rfl, by decide +kernel, rfl, by decide +kernel, by decide +kernel⟩
def d_law_ordered : He.DefD := ⟨("_law_ordered", none), "_law_ordered", "_law_ordered", defArgs s_law_ordered, defBody s_law_ordered, defScope s_law_ordered, [], []⟩
abbrev s_law_bent : Stmt := top 46
theorem sc_law_bent : FnScope ["_law_pen_here", "_law_text_here", "_law_sign", "_law_at", "_law_way"] ["_law_pen_here", "_law_text_here"] (defScope s_law_bent) := ⟨rfl, rfl, rfl, by decide +kernel, rfl, by decide +kernel, by decide +kernel⟩
def d_law_bent : He.DefD := ⟨("_law_bent", none), "_law_bent", "_law_bent", defArgs s_law_bent, defBody s_law_bent, defScope s_law_bent, [], []⟩
abbrev s_law_refused_right : Stmt := top 47
theorem sc_law_refused_right : FnScope ["_law_pen_here", "_law_heard_here", "_law_due", "_law_odd", "_law_bad"] ["_law_pen_here"] (defScope s_law_refused_right) := ⟨rfl, rfl, rfl, by decide +kernel, rfl, by decide +kernel, by decide +kernel⟩
def d_law_refused_right : He.DefD := ⟨("_law_refused_right", none), "_law_refused_right", "_law_refused_right", defArgs s_law_refused_right, defBody s_law_refused_right, defScope s_law_refused_right, [], []⟩
abbrev s_law_units_right : Stmt := top 48
theorem sc_law_units_right : FnScope ["_law_pen_here", "_law_again", "_law_both", "_law_units", "_law_texts", "_law_due", "_law_text_here", "_law_odd", "_law_heard_here", "_law_bent_here", "_law_turn", "_law_unit_here"] ["_law_pen_here"] (defScope s_law_units_right) := ⟨rfl, rfl, rfl, by decide +kernel, rfl, by decide +kernel, by decide +kernel⟩
def d_law_units_right : He.DefD := ⟨("_law_units_right", none), "_law_units_right", "_law_units_right", defArgs s_law_units_right, defBody s_law_units_right, defScope s_law_units_right, [], []⟩
abbrev s_law_read_heard : Stmt := top 49
theorem sc_law_read_heard : FnScope ["_law_ask", "error", "_law_caught", "_law_found"] ["_law_ask"] (defScope s_law_read_heard) := ⟨rfl, rfl, rfl, by decide +kernel, rfl, by decide +kernel, by decide +kernel⟩
def d_law_read_heard : He.DefD := ⟨("_law_read_heard", none), "_law_read_heard", "_law_read_heard", defArgs s_law_read_heard, defBody s_law_read_heard, defScope s_law_read_heard, [], []⟩
abbrev s_law_row_units : Stmt := top 50
theorem sc_law_row_units : FnScope ["_law_pen_here", "_law_found", "_law_turn", "_law_word", "_law_numbers", "_law_rank_here", "_law_at", "_law_number", "_law_other", "_law_one"] ["_law_pen_here"] (defScope s_law_row_units) := ⟨rfl, rfl, rfl, by decide +kernel, rfl, by decide +kernel, by decide +kernel⟩
def d_law_row_units : He.DefD := ⟨("_law_row_units", none), "_law_row_units", "_law_row_units", defArgs s_law_row_units, defBody s_law_row_units, defScope s_law_row_units, [], []⟩
abbrev s_law_is_number : Stmt := top 51
theorem sc_law_is_number : FnScope ["_law_word", "_law_low", "_law_sign"] ["_law_word", "_law_low"] (defScope s_law_is_number) := ⟨rfl, rfl, rfl, by decide +kernel, rfl, by decide +kernel, by decide +kernel⟩
def d_law_is_number : He.DefD := ⟨("_law_is_number", none), "_law_is_number", "_law_is_number", defArgs s_law_is_number, defBody s_law_is_number, defScope s_law_is_number, [], []⟩
abbrev s_law_wrong : Stmt := top 52
theorem sc_law_wrong : FnScope ["_law_words", "_law_at", "_law_last", "_law_spot", "_law_k", "_law_rank_here", "_law_many"] ["_law_words"] (defScope s_law_wrong) := ⟨rfl, rfl, rfl, by decide +kernel, rfl, by decide +kernel, by decide +kernel⟩
def d_law_wrong : He.DefD := ⟨("_law_wrong", none), "_law_wrong", "_law_wrong", defArgs s_law_wrong, defBody s_law_wrong, defScope s_law_wrong, [], []⟩
abbrev s_law_row_bent : Stmt := top 53
theorem sc_law_row_bent : FnScope ["_law_pen_here", "_law_words", "_law_word", "_law_at", "_law_way"] ["_law_pen_here", "_law_words"] (defScope s_law_row_bent) := ⟨rfl, rfl, rfl, by decide +kernel, rfl, by decide +kernel, by decide +kernel⟩
def d_law_row_bent : He.DefD := ⟨("_law_row_bent", none), "_law_row_bent", "_law_row_bent", defArgs s_law_row_bent, defBody s_law_row_bent, defScope s_law_row_bent, [], []⟩
abbrev s_law_row_right : Stmt := top 54
theorem sc_law_row_right : FnScope ["_law_words", "_law_heard_here", "_law_line", "_law_wrong_here"] ["_law_words"] (defScope s_law_row_right) := ⟨rfl, rfl, rfl, by decide +kernel, rfl, by decide +kernel, by decide +kernel⟩
def d_law_row_right : He.DefD := ⟨("_law_row_right", none), "_law_row_right", "_law_row_right", defArgs s_law_row_right, defBody s_law_row_right, defScope s_law_row_right, [], []⟩
abbrev s_law_texts_right : Stmt := top 55
theorem sc_law_texts_right : FnScope ["_law_pen_here", "_law_again", "_law_some", "_law_units", "_law_line", "_law_turn", "_law_odd", "_law_words"] ["_law_pen_here"] (defScope s_law_texts_right) := ⟨rfl, rfl, rfl, by decide +kernel, rfl, by decide +kernel, by decide +kernel⟩
def d_law_texts_right : He.DefD := ⟨("_law_texts_right", none), "_law_texts_right", "_law_texts_right", defArgs s_law_texts_right, defBody s_law_texts_right, defScope s_law_texts_right, [], []⟩
abbrev s_law : Stmt := top 56
theorem sc_law : FnScope ["_law_script", "_law_pen_here"] ["_law_script"] (defScope s_law) := ⟨rfl, rfl, rfl, by decide +kernel, rfl, by decide +kernel, by decide +kernel⟩
def d_law : He.DefD := ⟨("law", none), "law", "law", defArgs s_law, defBody s_law, defScope s_law, [], []⟩
abbrev s_BadUnit : Stmt := inClass (top 7) 0
theorem sc_BadUnit : FnScope ["self", "value"] ["self", "value"] (defScope s_BadUnit) := ⟨rfl, rfl, rfl, by decide +kernel, rfl, by decide +kernel, by decide +kernel⟩
def d_BadUnit : He.DefD := ⟨("BadUnit", some "__init__"), "__init__", "BadUnit.__init__", defArgs s_BadUnit, defBody s_BadUnit, defScope s_BadUnit, [], []⟩
abbrev s_BadCount : Stmt := inClass (top 8) 0
theorem sc_BadCount : FnScope ["self", "value"] ["self", "value"] (defScope s_BadCount) := ⟨rfl, rfl, rfl, by decide +kernel, rfl, by decide +kernel, by decide +kernel⟩
def d_BadCount : He.DefD := ⟨("BadCount", some "__init__"), "__init__", "BadCount.__init__", defArgs s_BadCount, defBody s_BadCount, defScope s_BadCount, [], []⟩
abbrev s_BadText : Stmt := inClass (top 9) 0
theorem sc_BadText : FnScope ["self", "line", "word"] ["self", "line", "word"] (defScope s_BadText) := ⟨rfl, rfl, rfl, by decide +kernel, rfl, by decide +kernel, by decide +kernel⟩
def d_BadText : He.DefD := ⟨("BadText", some "__init__"), "__init__", "BadText.__init__", defArgs s_BadText, defBody s_BadText, defScope s_BadText, [], []⟩
abbrev s_Words_init : Stmt := inClass (top 15) 0
theorem sc_Words_init : FnScope ["self", "words", "at", "line"] ["self", "words", "at", "line"] (defScope s_Words_init) := ⟨rfl, rfl, rfl, by decide +kernel, rfl, by decide +kernel, by decide +kernel⟩
def d_Words_init : He.DefD := ⟨("Words", some "__init__"), "__init__", "Words.__init__", defArgs s_Words_init, defBody s_Words_init, defScope s_Words_init, [], []⟩
abbrev s_Words_refuse : Stmt := inClass (top 15) 1
theorem sc_Words_refuse : FnScope ["self"] ["self"] (defScope s_Words_refuse) := ⟨rfl, rfl, rfl, by decide +kernel, rfl, by decide +kernel, by decide +kernel⟩
def d_Words_refuse : He.DefD := ⟨("Words", some "refuse"), "refuse", "Words.refuse", defArgs s_Words_refuse, defBody s_Words_refuse, defScope s_Words_refuse, [], []⟩
abbrev s_Words_peek : Stmt := inClass (top 15) 2
theorem sc_Words_peek : FnScope ["self"] ["self"] (defScope s_Words_peek) := ⟨rfl, rfl, rfl, by decide +kernel, rfl, by decide +kernel, by decide +kernel⟩
def d_Words_peek : He.DefD := ⟨("Words", some "peek"), "peek", "Words.peek", defArgs s_Words_peek, defBody s_Words_peek, defScope s_Words_peek, [], []⟩
abbrev s_Words_behind : Stmt := inClass (top 15) 3
theorem sc_Words_behind : FnScope ["self"] ["self"] (defScope s_Words_behind) := ⟨rfl, rfl, rfl, by decide +kernel, rfl, by decide +kernel, by decide +kernel⟩
def d_Words_behind : He.DefD := ⟨("Words", some "behind"), "behind", "Words.behind", defArgs s_Words_behind, defBody s_Words_behind, defScope s_Words_behind, [], []⟩
abbrev s_Words_behind_one : Stmt := inClass (top 15) 4
theorem sc_Words_behind_one : FnScope ["self", "choices"] ["self", "choices"] (defScope s_Words_behind_one) := ⟨rfl, rfl, rfl, by decide +kernel, rfl, by decide +kernel, by decide +kernel⟩
def d_Words_behind_one : He.DefD := ⟨("Words", some "behind_one"), "behind_one", "Words.behind_one", defArgs s_Words_behind_one, defBody s_Words_behind_one, defScope s_Words_behind_one, [], []⟩
abbrev s_Words_take_one : Stmt := inClass (top 15) 5
theorem sc_Words_take_one : FnScope ["self", "choices"] ["self", "choices"] (defScope s_Words_take_one) := ⟨rfl, rfl, rfl, by decide +kernel, rfl, by decide +kernel, by decide +kernel⟩
def d_Words_take_one : He.DefD := ⟨("Words", some "take_one"), "take_one", "Words.take_one", defArgs s_Words_take_one, defBody s_Words_take_one, defScope s_Words_take_one, [], []⟩
abbrev s_Words_is_at_whole : Stmt := inClass (top 15) 6
theorem sc_Words_is_at_whole : FnScope ["self", "word"] ["self"] (defScope s_Words_is_at_whole) := ⟨rfl, rfl, rfl, by decide +kernel, rfl, by decide +kernel, by decide +kernel⟩
def d_Words_is_at_whole : He.DefD := ⟨("Words", some "is_at_whole"), "is_at_whole", "Words.is_at_whole", defArgs s_Words_is_at_whole, defBody s_Words_is_at_whole, defScope s_Words_is_at_whole, [], []⟩
abbrev s_Words_take_whole : Stmt := inClass (top 15) 7
theorem sc_Words_take_whole : FnScope ["self"] ["self"] (defScope s_Words_take_whole) := ⟨rfl, rfl, rfl, by decide +kernel, rfl, by decide +kernel, by decide +kernel⟩
def d_Words_take_whole : He.DefD := ⟨("Words", some "take_whole"), "take_whole", "Words.take_whole", defArgs s_Words_take_whole, defBody s_Words_take_whole, defScope s_Words_take_whole, [], []⟩
abbrev s_Words_end : Stmt := inClass (top 15) 9
theorem sc_Words_end : FnScope ["self"] ["self"] (defScope s_Words_end) := ⟨rfl, rfl, rfl, by decide +kernel, rfl, by decide +kernel, by decide +kernel⟩
def d_Words_end : He.DefD := ⟨("Words", some "end"), "end", "Words.end", defArgs s_Words_end, defBody s_Words_end, defScope s_Words_end, [], []⟩
def fn : List He.DefD := ([d_is_whole, d_is_whole_from, d_is_whole_text, d_whole_of, d_words_of, d_is_unit, d_is_number, d_unit_of, d_unit_parts, d_rank, d_rank_of, d_in_order, d_units_text, d_read_units, d_take_units, d_take_some_units, d_take_unit, d_can_stand, d_text_of, d_law_pen] : List He.DefD) ++ ([d_law_draw, d_law_pick, d_law_heard, d_law_unit, d_law_text, d_law_made, d_law_is_unit, d_law_rank, d_law_ordered, d_law_bent, d_law_refused_right, d_law_units_right, d_law_read_heard, d_law_row_units, d_law_is_number, d_law_wrong, d_law_row_bent, d_law_row_right, d_law_texts_right, d_law] : List He.DefD) ++ ([d_BadUnit, d_BadCount, d_BadText, d_Words_init, d_Words_refuse, d_Words_peek, d_Words_behind, d_Words_behind_one, d_Words_take_one, d_Words_is_at_whole, d_Words_take_whole, d_Words_end] : List He.DefD)
/-- the error classes, by their places in the text; of each the one above it -/
def nm : List Str := (["VaultError", "BadInput", "BadUnit", "BadCount", "BadText"] : List Str)
def up : List Nat := [0, 0, 1, 1, 1]
/-- the i-th class stands below the j-th one, or is it -/
def isa (i j : Nat) : Bool := i == j || (up.getD i 0 == j || (up.getD (up.getD i 0) 0 == j))
def nmAt (i : Nat) : Str := nm.getD i Str.empty
def clsAll (K : PySem.W.Frag) : Bool := (List.range 5).all fun i => gloB K (nmAt i) && (clsB K (He.ga K (nmAt i)) && ((List.range 5).all fun j => decide (PySem.W.kitOne K (.ref (He.ga K (nmAt i))) (.ref (He.ga K (nmAt j))) = some (isa i j)) && decide (PySem.W.exmOne K (.ref (He.ga K (nmAt i))) (.ref (He.ga K (nmAt j))) = some (isa i j))))
def noIni : List Str := (["VaultError", "BadInput"] : List Str)
def inis : List (Str × List Str) := ([("BadUnit", (["value"] : List Str)), ("BadCount", (["value"] : List Str)), ("BadText", (["line", "word"] : List Str))] : List (Str × List Str))
def frees : List Str := (["ValueError", "abs", "all", "bool", "dict", "enumerate", "int", "isinstance", "len", "list", "max", "range", "repr", "sorted", "str", "tuple"] : List Str)
def fns : List Str := (["is_whole", "is_whole_from", "is_whole_text", "whole_of", "words_of", "is_unit", "is_number", "unit_of", "unit_parts", "rank", "rank_of", "in_order", "units_text", "read_units", "take_units", "take_some_units", "take_unit", "can_stand", "text_of", "_law_pen"] : List Str) ++ (["_law_draw", "_law_pick", "_law_heard", "_law_unit", "_law_text", "_law_made", "_law_is_unit", "_law_rank", "_law_ordered", "_law_bent", "_law_refused_right", "_law_units_right", "_law_read_heard", "_law_row_units", "_law_is_number", "_law_wrong", "_law_row_bent", "_law_row_right", "_law_texts_right", "law"] : List Str)
def fas : List He.Fa := ([.cls "Words", .glo "Words", .mkr "Words", .meth "Words" "refuse", .meth "Words" "peek", .meth "Words" "behind", .meth "Words" "behind_one", .meth "Words" "take_one", .meth "Words" "is_at_whole", .meth "Words" "take_whole", .meth "Words" "end", .noat "Words" "at", .noat "Words" "line", .noat "Words" "words", .int "PIECE" 60, .glo "UNIT_WORDS", .glo "PLACES", .glo "NUMBERS", .int "MOST" 99] : List He.Fa)
def tups : List (Str × List He.Dv) := [("UNIT_WORDS", [.str "journal", .str "block", .str "page", .str "cell", .str "bucket", .str "parity"])]
def dcts : List (Str × List (Str × He.Dv)) := [("PLACES", [("journal", .int 0), ("block", .int 1), ("page", .int 2), ("cell", .int 3), ("bucket", .int 4), ("parity", .int 5)]), ("NUMBERS", [("journal", .int 0), ("block", .int 1), ("page", .int 1), ("cell", .int 2), ("bucket", .int 1), ("parity", .int 2)])]
def tabs : List TabN := dcts.map fun p => (p.1, p.2.map (·.1))
def chk (K : PySem.W.Frag) : Bool := clsAll K && (inis.all (fun p => iniB K p.1 p.2) && (noIni.all (fun x => PySem.W.excIn K (He.ga K x) He.veBase "ValueError.__new__") && (frees.all (freeB K) && (fns.all (gloB K) && (fas.all (He.Fa.ok K) && (tups.all (tupB K) && dcts.all (fun p => He.valsB K (He.ga K p.1) p.2)))))))
abbrev R : PySem.W.OpenRow := PySem.W.OpenLaw.row PySem.Challenge.rw_rowvault_k32_units_written_and_read
abbrev hk : PySem.W.Hook := hookRT 5 chk fn tabs
def ob (s : PySem.W.SharedT) : He.AlT := obsRTG 5 chk fn tabs (HandSHeadRun.getT s)
theorem ob_eq (s : PySem.W.SharedT) : ob s = hk.obs s.abs := obsRTG_eq (HandSHeadRun.getT_eq s)
def loose0 : List PySem.Str := ["_wall", "is_whole", "is_whole_from", "VaultError", "BadInput", "BadUnit", "BadCount", "BadText", "PIECE", "is_whole_text", "whole_of", "words_of", "Words", "UNIT_WORDS", "PLACES", "NUMBERS", "MOST", "is_unit", "is_number", "unit_of", "unit_parts", "rank", "rank_of", "in_order"]
def loose1 : List PySem.Str := ["units_text", "read_units", "take_units", "take_some_units", "take_unit", "can_stand", "text_of", "_law_pen", "_law_draw", "_law_pick", "_law_heard", "_law_unit", "_law_text", "_law_made", "_law_is_unit", "_law_rank", "_law_ordered", "_law_bent", "_law_refused_right", "_law_units_right", "_law_read_heard", "_law_row_units", "_law_is_number", "_law_wrong"]
def loose2 : List PySem.Str := ["_law_row_bent", "_law_row_right", "_law_texts_right"]
abbrev loose : List PySem.Str := loose0 ++ loose1 ++ loose2
end L2.K32
set_option Elab.async false
set_option linter.all false
set_option maxRecDepth 100000
set_option maxHeartbeats 4000000
/-! Defs and error classes of the text, bundled for their callers. -/
namespace L2.RV
open PySem PySem.Spec PyProof.Rows
/-- the module's def x, with its promise -/
structure Def (P : Program) (w : World) (K : PySem.W.Frag) (mg : Str → Option Value) (base : Heap) (x : Str) (k : Nat) (ps : List Str) (sp : Sp) : Prop where
  ex : ∃ f fd, mg x = some (.ref f) ∧ PySem.W.keepIn K (.ref f) = true ∧ Binds K fd ps [] ∧ FnOk P w K mg base CX0 k f fd ps sp
structure DefG (P : Program) (w : World) (K : PySem.W.Frag) (mg : Str → Option Value) (base : Heap) (x : Str) (k : Nat) (ps : List Str) (sp : Sp) : Prop where
  ex : ∃ f fd, mg x = some (.ref f) ∧ PySem.W.keepIn K (.ref f) = true ∧ Binds K fd ps [] ∧ FnG P w K mg base CX0 k f fd ps sp
section
variable {X : Cx} {k : Nat} {ps : List Str} {sp : Sp} {x : Str} {p pos : Pos} {e : Expr} {es : List Expr} {t : TA}
theorem pe_callD (D : Def X.prog X.w X.K X.mg X.base x k ps sp) (hr : Room k X.A) (hg : Gl X x) (ha : PA X (e :: es) t) (hdb : (x == ("__debug__" : Str)) = false := by decide)
    (he : starEach (e :: es) X.env = (false, eval e X.env) :: starEach es X.env := by rfl) (hpl : (backTo pos (starEach es X.env)).any (·.1) = false := by rfl) : PE X (.Call (.Name x p) (e :: es) [] pos) (tCall sp [] E0 t) := by
  obtain ⟨f, fd, g, kp, b, F⟩ := D.ex
  exact pe_call F hr hg g kp b .nil pass0 ha hdb he hpl
theorem pe_callDG (D : DefG X.prog X.w X.K X.mg X.base x k ps sp) (hgu : X.A.guards = some []) (hr : Room k X.A) (hg : Gl X x) (ha : PA X (e :: es) t) (hdb : (x == ("__debug__" : Str)) = false := by decide)
    (he : starEach (e :: es) X.env = (false, eval e X.env) :: starEach es X.env := by rfl) (hpl : (backTo pos (starEach es X.env)).any (·.1) = false := by rfl) : PE X (.Call (.Name x p) (e :: es) [] pos) (tCall sp [] E0 t) := by
  obtain ⟨f, fd, g, kp, b, F⟩ := D.ex
  exact pe_callG F hgu hr hg g kp b .nil pass0 ha hdb he hpl
end
/-- an error stands at e, of the class at C; of its fields these are known -/
def ErrF (H : Hp) (e C : Addr) (l : List (Str × V)) : Prop := ∃ fs, ErrAt H e C fs ∧ ∀ f v, l.lookup f = some v → fs.lookup f = some v
theorem ErrF.same {H H' : Hp} {e C : Addr} {l : List (Str × V)} (x : ErrF H e C l) (s : Same H H') : ErrF H' e C l := by
  obtain ⟨fs, a, b⟩ := x
  exact ⟨fs, a.same s, b⟩
/-- error classes with one field, with two -/
structure Err1 (P : Program) (w : World) (K : PySem.W.Frag) (mg : Str → Option Value) (base : Heap) (x f : Str) (C : Addr) : Prop where
  ex : ∃ fI fd, MkX P w K mg base 1 x C fI fd [f] ∧ (∀ (s : Shared) (u v : Value), K.In s.heap → BindsTo s fd ⟨[u, v], []⟩ [("self", u), (f, v)]) ∧ ∀ (s : Shared) (u v : Value), K.In s.heap → BindsTo s fd ⟨[u], [(f, v)]⟩ [("self", u), (f, v)]
structure Err2 (P : Program) (w : World) (K : PySem.W.Frag) (mg : Str → Option Value) (base : Heap) (x f g : Str) (C : Addr) : Prop where
  ex : ∃ fI fd, MkX P w K mg base 1 x C fI fd [f, g] ∧ (∀ (s : Shared) (u v v' : Value), K.In s.heap → BindsTo s fd ⟨[u, v, v'], []⟩ [("self", u), (f, v), (g, v')]) ∧
    ∀ (s : Shared) (u v v' : Value), K.In s.heap → BindsTo s fd ⟨[u], [(g, v'), (f, v)]⟩ [("self", u), (f, v), (g, v')]
def tErr1 (C : Addr) (f : Str) (te : TE) : TE := fun σ H Q => te σ H fun v H1 => ∀ a H2, H1 a = none → Same H1 H2 → ErrF H2 a C [(f, v)] → Q (.ref a) H2
def tErr2 (C : Addr) (f g : Str) (ta tb : TE) : TE := fun σ H Q => ta σ H fun v H1 => tb σ H1 fun u H2 => ∀ a H3, H2 a = none → Same H2 H3 → ErrF H3 a C [(f, v), (g, u)] → Q (.ref a) H3
/-- the second field is told first -/
def tErr2R (C : Addr) (f g : Str) (tb ta : TE) : TE := fun σ H Q => tb σ H fun u H1 => ta σ H1 fun v H2 => ∀ a H3, H2 a = none → Same H2 H3 → ErrF H3 a C [(f, v), (g, u)] → Q (.ref a) H3
section
variable {X : Cx} {x f g : Str} {C : Addr} {p pos kp kq : Pos} {e e' : Expr} {te te' : TE}
theorem spl1 {pins : List (Addr × Obj)} {σ : L2.St} {H : Hp} {s : Shared} {R : VK} {Z : List Value → Shared → Prop} (ha : PE X e te) (I : Inv X pins σ H s) (h : te σ H R) (hf : ∀ u s1 v H1, Inv X pins σ H1 s1 → RelV v u → R v H1 → Z [u] s1)
    (h1 : starEach [e] X.env = (false, eval e X.env) :: starEach [] X.env := by rfl) : wpAny (model X.prog X.w) X.A (spliced (backTo pos (starEach [e] X.env))) Z X.xe s := by
  rw [h1]
  show wpAny _ _ (spliced ((false, eval e X.env) :: backTo pos (starEach [] X.env))) _ _ s
  apply Calls.spliced_cons
  refine thn (ha.run pins s σ H _ I h) ?_
  rintro u s1 ⟨v, H1, I1, r, q⟩
  exact Calls.spliced_nil (hf u s1 v H1 I1 r q)
theorem spl2 {pins : List (Addr × Obj)} {σ : L2.St} {H : Hp} {s : Shared} {R : V → V → Hp → Prop} {Z : List Value → Shared → Prop} (ha : PE X e te) (hb : PE X e' te') (I : Inv X pins σ H s) (h : te σ H fun v H1 => te' σ H1 fun v' H2 => R v v' H2)
    (hf : ∀ u u' s1 v v' H1, Inv X pins σ H1 s1 → RelV v u → RelV v' u' → R v v' H1 → Z [u, u'] s1)
    (h2 : starEach [e, e'] X.env = (false, eval e X.env) :: starEach [e'] X.env := by rfl) (h1 : starEach [e'] X.env = (false, eval e' X.env) :: starEach [] X.env := by rfl) : wpAny (model X.prog X.w) X.A (spliced (backTo pos (starEach [e, e'] X.env))) Z X.xe s := by
  rw [h2, h1]
  show wpAny _ _ (spliced ((false, eval e X.env) :: ((false, eval e' X.env) :: backTo pos (starEach [] X.env)))) _ _ s
  apply Calls.spliced_cons
  refine thn (ha.run pins s σ H _ I h) ?_
  rintro u s1 ⟨v, H1, I1, r, q⟩
  apply Calls.spliced_cons
  refine thn (hb.run pins s1 σ H1 _ I1 q) ?_
  rintro u' s2 ⟨v', H2, I2, r', q'⟩
  exact Calls.spliced_nil (hf u u' s2 v v' H2 I2 r r' q')
theorem pe_err1 (D : Err1 X.prog X.w X.K X.mg X.base x f C) (hr : Room 2 X.A) (hg : Gl X x) (ha : PE X e te) (hdb : (x == ("__debug__" : Str)) = false := by decide) (h1 : starEach [e] X.env = (false, eval e X.env) :: starEach [] X.env := by rfl)
    (hpl : (backTo pos (starEach [] X.env)).any (·.1) = false := by rfl) : PE X (.Call (.Name x p) [e] [] pos) (tErr1 C f te) := by
  obtain ⟨fI, fd, M, b1, b2⟩ := D.ex
  constructor
  intro pins s σ H Q I h
  apply wpAny_Call_Name_kw
  refine ld_glob I hg M.gC ?_ hdb
  refine PySem.W.callWith_K (h₀ := X.base) I.ok.mod.kin M.o.kC ?_ h1 hpl
  refine spl1 ha I h (fun u s1 v H1 I1 r q => ⟨I1.kIn, ?_⟩) h1
  exact run_mkX (ks := []) (ws := []) (as := [u]) (ts := [v]) M hr (fun s' u' kk => b1 s' u' u kk) I1 (.cons r .nil) rfl (by decide : 1 ≤ 1000) fun a H2 fs z1 z2 z3 z4 => q a H2 z1 z2 ⟨fs, z3, z4⟩
theorem pe_err2 (D : Err2 X.prog X.w X.K X.mg X.base x f g C) (hr : Room 2 X.A) (hg : Gl X x) (ha : PE X e te) (hb : PE X e' te') (hdb : (x == ("__debug__" : Str)) = false := by decide)
    (h2 : starEach [e, e'] X.env = (false, eval e X.env) :: starEach [e'] X.env := by rfl) (h1 : starEach [e'] X.env = (false, eval e' X.env) :: starEach [] X.env := by rfl)
    (hpl : (backTo pos (starEach [e'] X.env)).any (·.1) = false := by rfl) : PE X (.Call (.Name x p) [e, e'] [] pos) (tErr2 C f g te te') := by
  obtain ⟨fI, fd, M, b1, b2⟩ := D.ex
  constructor
  intro pins s σ H Q I h
  apply wpAny_Call_Name_kw
  refine ld_glob I hg M.gC ?_ hdb
  refine PySem.W.callWith_K (h₀ := X.base) I.ok.mod.kin M.o.kC ?_ h2 hpl
  refine spl2 ha hb I h (fun u u' s1 v v' H1 I1 r r' q => ⟨I1.kIn, ?_⟩) h2 h1
  exact run_mkX (ks := []) (ws := []) (as := [u, u']) (ts := [v, v']) M hr (fun s' z kk => b1 s' z u u' kk) I1 (.cons r (.cons r' .nil)) rfl (by decide : 2 ≤ 1000) fun a H2 fs z1 z2 z3 z4 => q a H2 z1 z2 ⟨fs, z3, z4⟩
theorem kws1 {pins : List (Addr × Obj)} {σ : L2.St} {H : Hp} {s : Shared} {R : VK} {Z : List Value → Shared → Prop} {n : Option Str} (ha : PE X e te) (I : Inv X pins σ H s) (h : te σ H R) (hf : ∀ u s1 v H1, Inv X pins σ H1 s1 → RelV v u → R v H1 → Z [u] s1) :
    wpAny (model X.prog X.w) X.A (evalAll ((backToKw pos (keywordEach [⟨n, e, kp⟩] X.env)).map (·.2))) Z X.xe s := by
  show wpAny _ _ (evalAll [do let v ← eval e X.env; standAt pos; pure v]) _ _ s
  apply wpAny_evalAll_cons
  apply wpAny_bind
  refine thn (ha.run pins s σ H _ I h) ?_
  rintro u s1 ⟨v, H1, I1, r, q⟩
  apply wpAny_bind
  apply wpAny_standAt
  apply wpAny_pure
  apply wpAny_evalAll_nil
  exact hf u s1 v H1 I1 r q
theorem kws2 {pins : List (Addr × Obj)} {σ : L2.St} {H : Hp} {s : Shared} {R : V → V → Hp → Prop} {Z : List Value → Shared → Prop} {n n' : Option Str} (ha : PE X e te) (hb : PE X e' te') (I : Inv X pins σ H s) (h : te σ H fun v H1 => te' σ H1 fun v' H2 => R v v' H2)
    (hf : ∀ u u' s1 v v' H1, Inv X pins σ H1 s1 → RelV v u → RelV v' u' → R v v' H1 → Z [u, u'] s1) :
    wpAny (model X.prog X.w) X.A (evalAll ((backToKw pos (keywordEach [⟨n, e, kp⟩, ⟨n', e', kq⟩] X.env)).map (·.2))) Z X.xe s := by
  show wpAny _ _ (evalAll [(do let v ← eval e X.env; standAt pos; pure v), (do let v ← eval e' X.env; standAt pos; pure v)]) _ _ s
  apply wpAny_evalAll_cons
  apply wpAny_bind
  refine thn (ha.run pins s σ H _ I h) ?_
  rintro u s1 ⟨v, H1, I1, r, q⟩
  apply wpAny_bind
  apply wpAny_standAt
  apply wpAny_pure
  apply wpAny_evalAll_cons
  apply wpAny_bind
  refine thn (hb.run pins s1 σ H1 _ I1 q) ?_
  rintro u' s2 ⟨v', H2, I2, r', q'⟩
  apply wpAny_bind
  apply wpAny_standAt
  apply wpAny_pure
  apply wpAny_evalAll_nil
  exact hf u u' s2 v v' H2 I2 r r' q'
theorem pe_err1K (D : Err1 X.prog X.w X.K X.mg X.base x f C) (hr : Room 2 X.A) (hg : Gl X x) (ha : PE X e te) (hdb : (x == ("__debug__" : Str)) = false := by decide) (hall : (backToKw pos (keywordEach [⟨some f, e, kp⟩] X.env)).all (·.1.isSome) = true := by rfl)
    (hks : (backToKw pos (keywordEach [⟨some f, e, kp⟩] X.env)).filterMap (·.1) = [f] := by rfl)
    (hpl : ((backTo pos (starEach [] X.env)).any (·.1) || (backToKw pos (keywordEach [⟨some f, e, kp⟩] X.env)).any (·.1.isNone)) = false := by rfl) : PE X (.Call (.Name x p) [] [⟨some f, e, kp⟩] pos) (tErr1 C f te) := by
  obtain ⟨fI, fd, M, b1, b2⟩ := D.ex
  constructor
  intro pins s σ H Q I h
  apply wpAny_Call_Name_kw
  refine ld_glob I hg M.gC ?_ hdb
  refine PySem.W.callWith_KW0 (h₀ := X.base) I.ok.mod.kin M.o.kC hall ?_ hpl
  refine kws1 ha I h (fun u s1 v H1 I1 r q => ⟨I1.kIn, ?_⟩)
  rw [hks]
  exact run_mkX (ks := [f]) (us := []) (ws := [u]) (as := [u]) (ts := [v]) M hr (fun s' u' kk => b2 s' u' u kk) I1 (.cons r .nil) rfl (by decide : 0 ≤ 1000) fun a H2 fs z1 z2 z3 z4 => q a H2 z1 z2 ⟨fs, z3, z4⟩
/-- by name, the second field ahead of the first -/
theorem pe_err2K (D : Err2 X.prog X.w X.K X.mg X.base x f g C) (hr : Room 2 X.A) (hg : Gl X x) (ha : PE X e te) (hb : PE X e' te') (hdb : (x == ("__debug__" : Str)) = false := by decide) (hall : (backToKw pos (keywordEach [⟨some g, e, kp⟩, ⟨some f, e', kq⟩] X.env)).all (·.1.isSome) = true := by rfl)
    (hks : (backToKw pos (keywordEach [⟨some g, e, kp⟩, ⟨some f, e', kq⟩] X.env)).filterMap (·.1) = [g, f] := by rfl)
    (hpl : ((backTo pos (starEach [] X.env)).any (·.1) || (backToKw pos (keywordEach [⟨some g, e, kp⟩, ⟨some f, e', kq⟩] X.env)).any (·.1.isNone)) = false := by rfl) : PE X (.Call (.Name x p) [] [⟨some g, e, kp⟩, ⟨some f, e', kq⟩] pos) (tErr2R C f g te te') := by
  obtain ⟨fI, fd, M, b1, b2⟩ := D.ex
  constructor
  intro pins s σ H Q I h
  apply wpAny_Call_Name_kw
  refine ld_glob I hg M.gC ?_ hdb
  refine PySem.W.callWith_KW0 (h₀ := X.base) I.ok.mod.kin M.o.kC hall ?_ hpl
  refine kws2 (R := fun u v H2 => ∀ a H3, H2 a = none → Same H2 H3 → ErrF H3 a C [(f, v), (g, u)] → Q (.ref a) H3) ha hb I h (fun u u' s1 v v' H1 I1 r r' q => ⟨I1.kIn, ?_⟩)
  rw [hks]
  exact run_mkX (ks := [g, f]) (us := []) (ws := [u, u']) (as := [u', u]) (ts := [v', v]) M hr (fun s' z kk => b2 s' z u' u kk) I1 (.cons r' (.cons r .nil)) rfl (by decide : 0 ≤ 1000) fun a H2 fs z1 z2 z3 z4 => q a H2 z1 z2 ⟨fs, z3, z4⟩
/-- an error class without an __init__ of its own, called without arguments -/
theorem pe_err0 {C : Addr} {bmB : List Value} {B newId initId : String} (F : ExcBaseFacts B newId initId bmB) (q : PySem.W.excIn X.K C bmB newId = true) (T : OexC X.K C) (gC : X.mg x = some (.ref C)) (hg : Gl X x) (hdb : (x == ("__debug__" : Str)) = false := by decide) :
    PE X (.Call (.Name x p) [] [] pos) (fun _ H Q => ∀ a H2, H a = none → Same H H2 → ErrF H2 a C [] → Q (.ref a) H2) := by
  constructor
  intro pins s σ H Q I h
  apply wpAny_Call_Name_kw
  refine ld_glob I hg gC ?_ hdb
  refine PySem.W.callWith_K0 I.kIn T.kC ?_
  show wpAny _ _ (call (.ref C) []) _ _ _
  obtain ⟨bm, N, nm, qn, bs, hdct, sn, sub, ab, col, dd, k0, k1, k2, k3, k5, mN, hC, hN, hni, tl⟩ := exc_obj I.kIn q
  refine wpAny_call_exc_subT F tl hC hN hni (fun h' a hm => ?_) (by show 0 ≤ sizeLine; exact Nat.zero_le _)
  have hn : H a = none := I.hok.gone hm.new
  obtain ⟨t, ht, _, _⟩ := hm.there
  have ok : ObjOk X.prog X.w (upd H a (exo a C none)) h' a (exo a C none) := exo_ok ht
  exact ⟨.ref a, upd H a (exo a C none), I.laidN hm.keeps hm.new hn ok, rfl, h a _ hn (fun b o z => by rw [upd_ne (ne_of_none z hn)]; exact z) ⟨[], .inl ⟨rfl, upd_same⟩, fun f v z => by cases z⟩⟩
end
/-- e.f of an error -/
def tErrF (K : PySem.W.Frag) (f : Str) (te : TE) : TE := fun σ H Q => te σ H fun x H1 => ∃ (e C : Addr) (l : List (Str × V)) (v : V), x = .ref e ∧ ErrF H1 e C l ∧ XfC K C ∧ PySem.W.findIn K (.ref C) f = some none ∧ l.lookup f = some v ∧ Q v H1
theorem pe_errF {X : Cx} {e : Expr} {te : TE} {pos : Pos} {f : Str} (he : PE X e te) (hb : attributeBase e f X.env (eval e X.env) = eval e X.env := by rfl) : PE X (.Attribute e f pos) (tErrF X.K f te) := by
  constructor
  intro pins s σ H Q I h
  apply attr_of hb
  refine thn (he.run pins s σ H _ I h) ?_
  rintro u s1 ⟨x, H1, I1, rx, e1, C, l, v, rfl, ⟨fs, at_, known⟩, T, no, lk, q⟩
  cases rx
  obtain ⟨ox, od, J, look⟩ := at_.inst I1
  have lk2 := known _ _ lk
  rcases look f with ⟨_, z⟩ | ⟨o, r, rfl, hl, rel⟩
  · rw [lk2] at z
    cases z
  · obtain ⟨u, hu, ru⟩ := RelO.some_of (v := v) (o := r) (by rw [← lk2]; exact rel)
    exact HandSPX.exc_get I1.kIn J T.ga T.gg T.exC (PySem.W.findObj_own T.hdC no rfl (by rw [hl, hu])) (handed_of ru) ⟨v, H1, I1.tok _, ru, q⟩
/-- isinstance(e, c) of an error -/
def rIsE (K : PySem.W.Frag) : List V → Hp → VK → Prop := fun xs H Q => ∃ (e C : Addr) (l : List (Str × V)) (c : V) (cv : Value) (b : Bool), xs = [.ref e, c] ∧ ErrF H e C l ∧ ExcC K C ∧ (∀ u, RelV c u → u = cv) ∧ PySem.W.kitOne K (.ref C) cv = some b ∧ Q (.bl b) H
theorem call_isE {X : Cx} : CallR X (.builtin "isinstance") (rIsE X.K) := by
  intro pins s σ H xs us Q I r h
  obtain ⟨e, C, l, c, cv, b, rfl, ⟨fs, at_, _⟩, cl, hcv, k, q⟩ := h
  exact call_isX pins s σ H _ us Q I r ⟨e, C, fs, c, cv, b, rfl, at_, cl, hcv, k, q⟩
end L2.RV
set_option Elab.async false
set_option linter.all false
set_option maxRecDepth 100000
set_option maxHeartbeats 4000000
/-! The pen of a law: its list of numbers, how many draws were made, what is left of a great one. -/
namespace L2.RV
open PySem PySem.Spec PyProof.Rows
structure PenAt (H : Hp) (p l : Addr) (ns : List Int) (at_ rest : Int) : Prop where
  pen : H p = some (.lst [.ref l, .int at_, .int rest])
  nums : H l = some (.lst (ns.map V.int))
  ne : l ≠ p
  few : ns.length ≤ 63
  from0 : 0 ≤ at_
  rest0 : 0 ≤ rest
theorem PenAt.same {H H' : Hp} {p l : Addr} {ns : List Int} {a r : Int} (x : PenAt H p l ns a r) (s : Same H H') : PenAt H' p l ns a r := ⟨s _ _ x.pen, s _ _ x.nums, x.ne, x.few, x.from0, x.rest0⟩
/-- _law_pen(script) -/
def spPen (K : PySem.W.Frag) : Sp := fun vs H Q _ => ∃ (a : Addr) (ns : List Int), vs = [.ref a] ∧ SqL K H a (ns.map V.int) ∧ ns.length ≤ 63 ∧ ∀ H' p l ns', Same H H' → H p = none → PenAt H' p l ns' 0 0 → Q (.ref p) H'
/-- _law_draw(pen, many) -/
def spDraw : Sp := fun vs H Q _ => ∃ (p l : Addr) (ns : List Int) (a r m : Int), vs = [.ref p, .int m] ∧ PenAt H p l ns a r ∧ a ≤ 100000 ∧ 0 < m ∧ m < 1073741824 ∧
  ∀ H' a' r' d, Keep p H H' → PenAt H' p l ns a' r' → a' ≤ a + 1 → 0 ≤ d → d < m → Q (.int d) H'
/-- _law_pick(pen, some) -/
def spPick : Sp := fun vs H Q _ => ∃ (p l q : Addr) (ns : List Int) (a r : Int) (xs : List V), vs = [.ref p, .ref q] ∧ PenAt H p l ns a r ∧ a ≤ 100000 ∧ H q = some (.lst xs) ∧ q ≠ p ∧ 0 < xs.length ∧ xs.length < 1000000 ∧
  ∀ H' a' r' v, Keep p H H' → PenAt H' p l ns a' r' → a' ≤ a + 1 → v ∈ xs → Q v H'
theorem rd_ix {K : PySem.W.Frag} {H : Hp} {p : Addr} {xs : List V} {k : Int} {v : V} {Q : VK} (h : H p = some (.lst xs)) (e : atI xs k = some v) (q : Q v H) : rIx K (.ref p) (.int k) H Q := .inl ⟨p, xs, k, v, rfl, rfl, SqL.of h, e, q⟩
theorem rd_set {H : Hp} {p : Addr} {xs : List V} (ys : List V) {k : Int} {j : Nat} {v : V} {Q : Hp → Prop} (h : H p = some (.lst xs)) (e : ixN xs.length k = some j) (w : xs.set j v = ys) (q : Q (upd H p (.lst ys))) : rSetL (.ref p) (.int k) v H Q := ⟨p, xs, k, j, rfl, rfl, h, e, by rw [w]; exact q⟩
theorem cut_ints (ns : List Int) (lo hi : Option Int) : ∃ ms : List Int, cutV (ns.map V.int) lo hi = ms.map V.int ∧ ms.length ≤ ns.length := by
  refine ⟨(ns.drop (HT.sIx (ns.map V.int).length 0 lo)).take (HT.sIx (ns.map V.int).length (ns.map V.int).length hi - HT.sIx (ns.map V.int).length 0 lo), ?_, ?_⟩
  · unfold cutV
    rw [List.map_take, List.map_drop]
  · rw [List.length_take, List.length_drop]
    omega
theorem atI_mod {ns : List Int} {a : Int} (h : 0 < ns.length) (h0 : 0 ≤ a) : ∃ c, atI (ns.map V.int) (a % (ns.map V.int).length) = some (.int c) := by
  have hl : ((ns.map V.int).length : Int) = (ns.length : Int) := by rw [List.length_map]
  have b0 : 0 ≤ a % (ns.length : Int) := Int.emod_nonneg _ (by omega)
  have b1 : a % (ns.length : Int) < (ns.length : Int) := Int.emod_lt_of_pos _ (by omega)
  obtain ⟨j, hj⟩ : ∃ j : Nat, a % (ns.length : Int) = (j : Int) := ⟨_, (Int.toNat_of_nonneg b0).symm⟩
  have lt : j < ns.length := by omega
  refine ⟨ns[j], ?_⟩
  rw [hl, hj]
  exact atI_nat (by rw [List.getElem?_map, List.getElem?_eq_getElem lt]; rfl)
theorem no_ints {ns : List Int} : PyData.eqv (.list (ns.map PyData.int)) (.list []) = ns.isEmpty := by
  cases ns with
  | nil => rfl
  | cons n ns => rfl
theorem mul_small {x y b c : Int} (x0 : 0 ≤ x) (x1 : x ≤ b) (y0 : 0 ≤ y) (y1 : y ≤ c) : 0 ≤ x * y ∧ x * y ≤ b * c :=
  ⟨Int.mul_nonneg x0 y0, Int.le_trans (Int.mul_le_mul_of_nonneg_right x1 y0) (Int.mul_le_mul_of_nonneg_left y1 (Int.le_trans x0 x1))⟩
theorem cpow5 {x : Int} (x0 : 0 ≤ x) (x1 : x ≤ 1000000000000) : CPow x 5 := ⟨by decide, by decide, by omega⟩
theorem cpow3 {y u v a c : Int} (y0 : 0 ≤ y) (y1 : y ≤ 2147483648) (u0 : 0 ≤ u) (u1 : u ≤ 1048576) (v0 : 0 ≤ v) (v1 : v ≤ 1099511627776) (a0 : 0 ≤ a) (a1 : a ≤ 100000) (c0 : 0 ≤ c) (c1 : c ≤ 1000000) : CPow (y * u + v * a + c) 3 := by
  have z1 := mul_small y0 y1 u0 u1
  have z2 := mul_small v0 v1 a0 a1
  exact ⟨by decide, by decide, by omega⟩
theorem cmulL {x y : Int} (x0 : 0 ≤ x) (x1 : x ≤ 1000000000000000000) : CMul x y := .inl ⟨by omega, by omega⟩
theorem e18 : (10 : Int) ^ (18 : Int).toNat = 1000000000000000000 := by decide
theorem c18 : CPow 10 18 := ⟨by decide, by decide, by decide⟩
end L2.RV
set_option Elab.async false
set_option linter.all false
set_option maxRecDepth 100000
set_option maxHeartbeats 4000000
/-! A caught exception is kept: behind the try it stands as a value. -/
namespace L2.RV
open PySem PySem.Spec PyProof.Rows
/-- an exception of the class cls at a, its dict at d -/
def exk (cls : Value) (d : Option Addr) (a : Addr) : HO := .ext fun h => ∃ (oe : Obj) (vs : Array Value), h.get? a = some oe ∧ Zc cls d oe ∧ oe.data = .fields vs
theorem exk_ok {P : Program} {w : World} {H : Hp} {h : Heap} {a : Addr} {cls : Value} {d : Option Addr} {oe : Obj} {vs : Array Value} (e : h.get? a = some oe) (z : Zc cls d oe) (hd : oe.data = .fields vs) : ObjOk P w H h a (exk cls d a) :=
  ⟨⟨oe, vs, e, z, hd⟩, ⟨oe, e⟩, fun _ _ ⟨o, v, e1, z1, d1⟩ k => ⟨o, v, k _ e1, z1, d1⟩⟩
section
variable {X : Cx} {pins : List (Addr × Obj)} {σ : L2.St} {H : Hp} {s : Shared}
/-- a thing that is new since the entry, and not tracked as yet, is tracked from now on -/
theorem track {a : Addr} {o : HO} (I : Inv X pins σ H s) (h0 : X.s_0.heap.get? a = none) (hn : H a = none) (nl : a ≠ X.env.locals) (nc : ∀ x c, X.env.cells.lookup x = some c → c ≠ a) (np : ∀ p ∈ X.pn ++ pins, p.1 ≠ a)
    (new : ObjOk X.prog X.w (upd H a o) s.heap a o) : Inv X pins σ (upd H a o) s where
  ok := I.ok
  os := I.os
  bare := I.bare
  base := by
    have keep : ∀ b u, H b = some u → upd H a o b = some u := fun b u z => by
      rw [upd_ne (ne_of_none z hn)]
      exact z
    refine ⟨I.base.keep, I.base.slot, fun b u e n hx => ?_, I.base.there, fun b xs e => keep _ _ (I.base.tups b xs e), fun b x u e => keep _ _ (I.base.frzs b x u e), fun b ps e => ?_⟩
    · have ne : b ≠ a := fun z => by
        rw [z, h0] at e
        cases e
      rw [upd_ne ne]
      exact I.base.free b u e n hx
    · obtain ⟨more, z⟩ := I.base.tbls b ps e
      exact ⟨more, keep _ _ z⟩
  loc := I.loc
  cell := I.cell
  free := by
    rw [upd_ne (Ne.symm nl)]
    exact I.free
  freeC := fun x c e => by
    rw [upd_ne (nc x c e)]
    exact I.freeC x c e
  pin := fun p hp => by
    obtain ⟨a1, a2, a3⟩ := I.pin p hp
    refine ⟨a1, ?_, a3⟩
    rw [upd_ne (np p hp)]
    exact a2
  hok := fun b u e => by
    by_cases hb : b = a
    · subst hb
      rw [upd_same] at e
      cases e
      exact new
    · rw [upd_ne hb] at e
      refine (I.hok b u e).stay (fun _ _ _ z => z) (fun c z => ?_) (fun c xs z => ?_)
      · rw [upd_ne (ne_of_none z hn)]
        exact z
      · rw [upd_ne (ne_of_none z hn)]
        exact z
  len := I.len
end
/-- the wish of a try whose suite keeps what it caught -/
def wKeep (K : PySem.W.Frag) (c : Value) (i : Nat) (ts : Addr → Value → Option Addr → TS) (Wout : WX) (D : Ends) : WX := fun cls d σ H =>
  ∃ b, PySem.W.exmOne K cls c = some b ∧ (b = true → ∀ a, H a = none → ts a cls d { nx := fun σ' H' => H' a = none → D.nx (σ'.set i none) (upd H' a (exk cls d a)), rt := fun v H' => D.rt v H', bk := fun σ' H' => D.bk (σ'.set i none) H', ct := fun σ' H' => D.ct (σ'.set i none) H' } (σ.set i (some (.ref a))) H) ∧
    (b = false → Wout cls d σ H)
section
variable {X : Cx} {x n : Str} {c : Value} {i : Nat} {body suite : List Stmt} {b₀ : Stmt} {np pos pos' : Pos} {tb : WX → TS} {ts : Addr → Value → Option Addr → TS} {Wout : WX}
theorem ps_try_keep (hex : X.ex = []) (hs : X.stack = X.env :: X.outer) (hf : X.env.frame = some X.env.locals) (hN : X.N.Nodup) (hi : X.N[i]? = some n) (hln : X.env.kindOf n = some .local) (hc : Names X x c) (tk : Takes X Wout)
    (hb : ∀ (W : WX) (pn : List (Addr × Obj)) (xe : Value → Shared → Prop), Takes (X.tr pn xe) W → PassesOwn (model X.prog X.w) X.A X.env xe → PSs (X.tr pn xe) body (tb W))
    (hsu : ∀ (a : Addr) (oe : Obj) (cls : Value) (d : Option Addr) (pn : List (Addr × Obj)), Zc cls d oe → (∃ vs, oe.data = .fields vs) → PSs (X.suite a ((a, oe) :: pn)) (b₀ :: suite) (ts a cls d)) :
    PS X (.Try body [.ExceptHandler (some (.Name x np)) (some n) (b₀ :: suite) pos'] [] [] pos) (fun D σ H => tb (wKeep X.K c i ts Wout D) D σ H) := by
  refine ⟨fun pins s σ H D I h => ?_⟩
  have ok := I.ok
  have hfr : X.A.frames = some (X.env :: X.outer) := by rw [ok.frames, hs]
  have hloc : Loc X.env.scope n := .inl hln
  refine wpAny_Try_except ?_
  refine wpAny_mono ((hb (wKeep X.K c i ts Wout D) (X.pn ++ pins) (fun e s₁ => wpAny (model X.prog X.w) X.A (noteFrame e X.env) (fun _ s₂ => wpAny (model X.prog X.w) X.A (setFlight e none) (fun _ s₃ =>
    wpAny (model X.prog X.w) X.A (handleBy e X.env [.ExceptHandler (some (.Name x np)) (some n) (b₀ :: suite) pos']) (SP X pins D) X.xe s₃) X.xe s₂) X.xe s₁) (fun u s' xx => ?_) PassesOwn.looking).run [] s σ H D (I.toTry _) h) (fun f s1 hsp => ?_) (fun e s1 he => he)
  · obtain ⟨a, B, sI, pins', σ', H', cls, d, rfl, J', nb, up, sky, na, os, ag, b, hb1, hyes, hno⟩ := xx
    have J : Inv X pins σ' H' sI := J'.ofTry ok
    have sky' : Sky B (X.env :: X.outer) a (Zc cls d) X.env.locals s'.heap := by rw [← hs]; exact sky
    have bn : B.get? a = none := by
      rcases sky' with z | z | z
      · exact z.2.1
      · exact z.2.1
      · exact z.2.1
    show wpAny _ X.A (noteFrame (.ref a) X.env) _ _ _
    refine Sky.land Zc.steady hfr hf sky' fun h3 fl3 up3 => ?_
    have J3 : Inv X pins σ' H' { s' with heap := h3 } := J.landed nb fl3.1 (up.trans up3) os ag
    obtain ⟨oe3, vs3, he3, hz3, hd3⟩ := fl3.there
    have notFr : ∀ {h : Heap} {o : Obj} {vs : Array Value}, h.FunFrames B (X.env :: X.outer) → h.get? a = some o → o.data = .fields vs → a ∉ frs (X.env :: X.outer) := fun {h o vs} ff e dd hm => by
      obtain ⟨_, o', e', hnf⟩ := ff.mem hm
      rw [e] at e'; cases e'
      exact hnf _ dd
    have nfr := notFr fl3.2.2.1 he3 hd3
    have aI : sI.heap.get? a = none := by
      cases z : sI.heap.get? a with
      | none => rfl
      | some o =>
        have y := nb a o z (by rw [hs]; exact nfr)
        rw [bn] at y
        cases y
    have a0 : X.s_0.heap.get? a = none := by
      cases z : X.s_0.heap.get? a with
      | none => rfl
      | some o =>
        obtain ⟨o', y⟩ := J.base.there a o z (by rw [hex]; simp)
        rw [aI] at y
        cases y
    have nL : a ≠ X.env.locals := fun z => nfr (List.mem_filterMap.mpr ⟨X.env, List.mem_cons_self, by rw [hf, z]⟩)
    have nF : a ∉ X.fs := fun hm => by
      obtain ⟨e, he, q⟩ := List.mem_filterMap.mp hm
      exact nfr (List.mem_filterMap.mpr ⟨e, List.mem_cons_of_mem _ he, q⟩)
    have nP : ∀ p ∈ X.pn ++ pins, p.1 ≠ a := fun p hp z => by
      have y := (J.pin p hp).1
      rw [z, aI] at y
      cases y
    have S3 := J3.suite he3 hd3 na nL nF
    refine wpAny_handleBy_cons (codeAny_handlers_test ?_) (by intro q; cases q)
    have LT : PySem.W.Looks (model X.prog X.w) h3 (typeOf (.ref a)) cls := fun A Q E s k q => wpAny_typeOf_ref (k _ _ he3) (by rw [hz3.1]; exact q)
    have LM := PySem.W.exm_one (M := model X.prog X.w) (J3.kIn) LT hb1
    have test : ∀ {Q : Value → Shared → Prop} {E : Value → Shared → Prop}, Q c { s' with heap := h3 } → wpAny (model X.prog X.w) (X.A.mark (some (.ref a))) (eval (.Name x np) X.env) Q E { s' with heap := h3 } := fun {Q E} q => by
      obtain ⟨hg, hdbg, hm | ⟨hm, hv, hnn⟩⟩ := hc
      · exact ld_glob (X := X.suite a ((a, oe3) :: (X.pn ++ pins))) S3 hg hm q hdbg
      · exact ld_blt (X := X.suite a ((a, oe3) :: (X.pn ++ pins))) S3 hg hm hv q hnn hdbg
    refine test (LM.here ?_)
    cases b with
    | true =>
      refine codeAny_handlers_suite_as ?_
      refine HandSPX.lands_againZ fl3 fun h4 fl4 up4 => ?_
      have J4 : Inv X pins σ' H' { s' with heap := h4 } := J.landed nb fl4.1 ((up.trans up3).trans up4) os ag
      obtain ⟨oe4, vs4, he4, hz4, hd4⟩ := fl4.there
      have S4 := J4.suite he4 hd4 na nL nF
      refine store_ok (X := X.suite a ((a, oe4) :: (X.pn ++ pins))) (v := .ref a) S4 hN hi hloc rfl (fun s5 S5 => ?_) (.inr hln)
      refine wpAny_mono ((hsu a oe4 cls d (X.pn ++ pins) hz4 ⟨_, hd4⟩).run [] s5 _ H' _ S5 (hyes rfl a na)) (fun f s6 hsp => ?_) (fun _ _ z => False.elim z)
      have end_ : ∀ {σ6 : L2.St} {H6 : Hp} {Q : Shared → Prop}, Inv X pins σ6 H6 s6 → (∀ s7, Inv X pins (σ6.set i none) H6 s7 → Q s7) →
          wpAny (model X.prog X.w) X.A (do bindName X.env n .none; unbindBehindTheSuite X.env n pos') (fun _ s7 => Q s7) X.xe s6 := fun {σ6 H6 Q} S6 hq => gone_ok S6 hN hi hln hq
      cases f with
      | next =>
        obtain ⟨σ6, H6, S6, q6⟩ := hsp
        obtain ⟨p1, p2, p3, p4, p5⟩ := S6.pin (a, oe4) (by rw [List.append_nil]; exact List.mem_cons_self)
        have J6 := S6.unsuite ok
        have nC : ∀ y cc, X.env.cells.lookup y = some cc → cc ≠ a := fun y cc e z => by
          obtain ⟨v, hcell⟩ := J6.cell y cc e
          rw [z] at hcell
          obtain ⟨oc, g1, g2⟩ := hcell
          have g1' : s6.heap.get? a = some oc := g1
          have p1' : s6.heap.get? a = some oe4 := p1
          rw [p1'] at g1'
          cases g1'
          exact p5 v g2
        have T6 := track J6 a0 p2 nL nC nP (exk_ok (cls := cls) (d := d) p1 hz4 hd4)
        exact end_ T6 fun s7 J7 => ⟨_, _, J7, q6 p2⟩
      | brk =>
        obtain ⟨σ6, H6, S6, q6⟩ := hsp
        exact end_ (S6.unsuite ok) fun s7 J7 => ⟨_, _, J7, q6⟩
      | cont =>
        obtain ⟨σ6, H6, S6, q6⟩ := hsp
        exact end_ (S6.unsuite ok) fun s7 J7 => ⟨_, _, J7, q6⟩
      | ret u =>
        obtain ⟨v6, σ6, H6, S6, r6, q6⟩ := hsp
        exact end_ (S6.unsuite ok) fun s7 J7 => ⟨_, _, _, J7, r6, q6⟩
    | false =>
      show wpAny _ X.A (handleBy (.ref a) X.env []) _ _ _
      refine wpAny_handleBy_nil ?_
      obtain ⟨k1, k2, k3, oe, vs, T, oT, ts', he, hz, hd, h1, hr⟩ := id fl3
      unfold PySem.passOn
      refine wpAny_bind (wpAny_field he hd h1 ?_)
      rw [if_neg (show ¬ ((Value.ref T == Value.none) = true) from by simp)]
      have fin : wpAny (model X.prog X.w) X.A (setFlight (.ref a) X.env.frame) (fun _ s4 => wpAny (model X.prog X.w) X.A (throw (.ref a) : Sem Flow) (SP X pins D) X.xe s4) X.xe { s' with heap := h3 } := by
        rw [hf]
        refine HandSPX.setFlight_upZ fl3 fun h4 hh4 up4 => wpAny_throw (tk _ _ ?_)
        exact ⟨a, B, sI, pins, σ', H', cls, d, rfl, J, nb, (up.trans up3).trans up4, .inr (.inr (by rw [hs]; exact hh4)), na, os, ag, hno rfl⟩
      first
        | exact wpAny_bind (wpAny_pure (wpAny_bind fin))
        | exact wpAny_bind fin
  · cases f with
    | next =>
      obtain ⟨σ', H', J', q⟩ := hsp
      exact wpAny_execs_nil ⟨σ', H', J'.ofTry ok, q⟩
    | brk =>
      obtain ⟨σ', H', J', q⟩ := hsp
      exact ⟨σ', H', J'.ofTry ok, q⟩
    | cont =>
      obtain ⟨σ', H', J', q⟩ := hsp
      exact ⟨σ', H', J'.ofTry ok, q⟩
    | ret u =>
      obtain ⟨v, σ', H', J', r, q⟩ := hsp
      exact ⟨v, σ', H', J'.ofTry ok, r, q⟩
end
/-- a caught error stands at e, of the class at C; of its fields these are known -/
def ErrK (H : Hp) (e C : Addr) (l : List (Str × V)) : Prop := ∃ d, H e = some (exk (.ref C) (some d) e) ∧ ∃ fs, H d = some (.xd fs) ∧ ∀ f v, l.lookup f = some v → fs.lookup f = some v
theorem ErrK.same {H H' : Hp} {e C : Addr} {l : List (Str × V)} (x : ErrK H e C l) (s : Same H H') : ErrK H' e C l := by
  obtain ⟨d, a, fs, b, c⟩ := x
  exact ⟨d, s _ _ a, fs, s _ _ b, c⟩
section
variable {X : Cx} {pins : List (Addr × Obj)} {σ : L2.St} {H : Hp} {s : Shared} {e C : Addr} {l : List (Str × V)}
theorem ErrK.inst (x : ErrK H e C l) (I : Inv X pins σ H s) : ∃ ox o, PySem.W.InstAt s.heap e ox C (some o) ∧ ∀ f v, l.lookup f = some v → ∃ u, PySem.W.lookIn f o = some (some u) ∧ RelV v u := by
  obtain ⟨d, a, fs, b, c⟩ := x
  obtain ⟨⟨oe, vs, e1, z1, d1⟩, _, _⟩ := (show ObjOk X.prog X.w H s.heap e (exk (.ref C) (some d) e) from I.hok _ _ a)
  obtain ⟨mA, hns, rel⟩ := (show ObjOk X.prog X.w H s.heap d (.xd fs) from I.hok _ _ b)
  have hns1 : s.heap.Ns1 d mA := hns
  obtain ⟨o, hd, hl⟩ := lookIn_ns hns1
  refine ⟨oe, o, ⟨e1, z1.1, by unfold PySem.W.notCls; rw [d1], by rw [z1.2]; exact hd⟩, fun f v lk => ?_⟩
  have r := rel f
  rw [c f v lk] at r
  obtain ⟨u, hu, ru⟩ := RelO.some_of (v := v) (o := mA f) r
  exact ⟨u, by rw [hl, hu], ru⟩
end
/-- isinstance(e, c) of a caught error -/
def rIsK (K : PySem.W.Frag) : List V → Hp → VK → Prop := fun xs H Q => ∃ (e C : Addr) (l : List (Str × V)) (c : V) (cv : Value) (b : Bool), xs = [.ref e, c] ∧ ErrK H e C l ∧ ExcC K C ∧ (∀ u, RelV c u → u = cv) ∧ PySem.W.kitOne K (.ref C) cv = some b ∧ Q (.bl b) H
theorem call_isK {X : Cx} : CallR X (.builtin "isinstance") (rIsK X.K) := by
  intro pins s σ H xs us Q I r h
  obtain ⟨e, C, l, c, cv, b, rfl, at_, cl, hcv, k, q⟩ := h
  obtain ⟨u, u', rfl, ru, ru'⟩ := vals2 r
  cases ru
  obtain rfl := hcv _ ru'
  obtain ⟨ox, o, J, _⟩ := at_.inst I
  exact PySem.W.kia_one (kitE cl) I.kIn J k (fun z => nomatch z) fun tk => ⟨.bl b, H, I.kept (t' := tk) fun _ _ z => z, rfl, q⟩
/-- e.f of a caught error -/
def tErrK (K : PySem.W.Frag) (f : Str) (te : TE) : TE := fun σ H Q => te σ H fun x H1 => ∃ (e C : Addr) (l : List (Str × V)) (v : V), x = .ref e ∧ ErrK H1 e C l ∧ XfC K C ∧ PySem.W.findIn K (.ref C) f = some none ∧ l.lookup f = some v ∧ Q v H1
theorem pe_errK {X : Cx} {e : Expr} {te : TE} {pos : Pos} {f : Str} (he : PE X e te) (hb : attributeBase e f X.env (eval e X.env) = eval e X.env := by rfl) : PE X (.Attribute e f pos) (tErrK X.K f te) := by
  constructor
  intro pins s σ H Q I h
  apply attr_of hb
  refine thn (he.run pins s σ H _ I h) ?_
  rintro u s1 ⟨x, H1, I1, rx, e1, C, l, v, rfl, at_, T, no, lk, q⟩
  cases rx
  obtain ⟨ox, o, J, look⟩ := at_.inst I1
  obtain ⟨u, hu, ru⟩ := look _ _ lk
  exact HandSPX.exc_get I1.kIn J T.ga T.gg T.exC (PySem.W.findObj_own T.hdC no rfl hu) (handed_of ru) ⟨v, H1, I1.tok _, ru, q⟩
end L2.RV
set_option Elab.async false
set_option linter.all false
set_option maxRecDepth 100000
set_option maxHeartbeats 4000000
/-! What the top has left. -/
namespace L2.K32
open PySem PySem.Spec PyProof.Rows L2.RV
/-- the i-th error class stands here -/
def ca (K : PySem.W.Frag) (i : Nat) : Addr := He.ga K (nmAt i)
structure Top (w : World) (K : PySem.W.Frag) (mg : Str → Option Value) : Prop where
  n_ValueError : mg "ValueError" = none
  n_abs : mg "abs" = none
  n_all : mg "all" = none
  n_bool : mg "bool" = none
  n_dict : mg "dict" = none
  n_enumerate : mg "enumerate" = none
  n_int : mg "int" = none
  n_isinstance : mg "isinstance" = none
  n_len : mg "len" = none
  n_list : mg "list" = none
  n_max : mg "max" = none
  n_range : mg "range" = none
  n_repr : mg "repr" = none
  n_sorted : mg "sorted" = none
  n_str : mg "str" = none
  n_tuple : mg "tuple" = none
  c_VaultError : mg "VaultError" = some (.ref (ca K 0))
  c_BadInput : mg "BadInput" = some (.ref (ca K 1))
  c_BadUnit : mg "BadUnit" = some (.ref (ca K 2))
  c_BadCount : mg "BadCount" = some (.ref (ca K 3))
  c_BadText : mg "BadText" = some (.ref (ca K 4))
  x_VaultError : PySem.W.excIn K (ca K 0) He.veBase "ValueError.__new__" = true
  x_BadInput : PySem.W.excIn K (ca K 1) He.veBase "ValueError.__new__" = true
  ox : ∀ i, i < 5 → OexC K (ca K i)
  ex : ∀ i, i < 5 → ExcC K (ca K i) ∧ XfC K (ca K i)
  kin : ∀ i j, i < 5 → j < 5 → PySem.W.kitOne K (.ref (ca K i)) (.ref (ca K j)) = some (isa i j)
  exm : ∀ i j, i < 5 → j < 5 → PySem.W.exmOne K (.ref (ca K i)) (.ref (ca K j)) = some (isa i j)
  k_Words : Cls K (He.ga K "Words")
  g_Words : mg "Words" = some (.ref (He.ga K "Words"))
  m_Words : Mk K (He.ga K "Words") (He.ma K (He.ga K "Words") "__init__")
  m_Words_refuse : Meth K (He.ga K "Words") "refuse" (He.ma K (He.ga K "Words") "refuse")
  m_Words_peek : Meth K (He.ga K "Words") "peek" (He.ma K (He.ga K "Words") "peek")
  m_Words_behind : Meth K (He.ga K "Words") "behind" (He.ma K (He.ga K "Words") "behind")
  m_Words_behind_one : Meth K (He.ga K "Words") "behind_one" (He.ma K (He.ga K "Words") "behind_one")
  m_Words_take_one : Meth K (He.ga K "Words") "take_one" (He.ma K (He.ga K "Words") "take_one")
  m_Words_is_at_whole : Meth K (He.ga K "Words") "is_at_whole" (He.ma K (He.ga K "Words") "is_at_whole")
  m_Words_take_whole : Meth K (He.ga K "Words") "take_whole" (He.ma K (He.ga K "Words") "take_whole")
  m_Words_end : Meth K (He.ga K "Words") "end" (He.ma K (He.ga K "Words") "end")
  a_Words_at : NoAttr K (He.ga K "Words") "at"
  a_Words_line : NoAttr K (He.ga K "Words") "line"
  a_Words_words : NoAttr K (He.ga K "Words") "words"
  i_PIECE : ∃ u, mg "PIECE" = some u ∧ RelV (.int 60) u
  g_UNIT_WORDS : mg "UNIT_WORDS" = some (.ref (He.ga K "UNIT_WORDS"))
  g_PLACES : mg "PLACES" = some (.ref (He.ga K "PLACES"))
  g_NUMBERS : mg "NUMBERS" = some (.ref (He.ga K "NUMBERS"))
  i_MOST : ∃ u, mg "MOST" = some u ∧ RelV (.int 99) u
  t_UNIT_WORDS : ∀ H : Hp, SqT K H (He.ga K "UNIT_WORDS") [V.str "journal", V.str "block", V.str "page", V.str "cell", V.str "bucket", V.str "parity"]
  y_UNIT_WORDS : ∀ H : Hp, tyV K "tuple" (.ref (He.ga K "UNIT_WORDS")) H
  d_PLACES : ∃ es n, KDict K w (He.ga K "PLACES") es n
  v_PLACES : ∀ q, q ∈ ([("journal", .int 0), ("block", .int 1), ("page", .int 2), ("cell", .int 3), ("bucket", .int 4), ("parity", .int 5)] : List (Str × He.Dv)) → ∃ u, PySem.W.nsIn K (He.ga K "PLACES") q.1 = some (some u) ∧ RelV (q.2.v K) u
  d_NUMBERS : ∃ es n, KDict K w (He.ga K "NUMBERS") es n
  v_NUMBERS : ∀ q, q ∈ ([("journal", .int 0), ("block", .int 1), ("page", .int 1), ("cell", .int 2), ("bucket", .int 1), ("parity", .int 2)] : List (Str × He.Dv)) → ∃ u, PySem.W.nsIn K (He.ga K "NUMBERS") q.1 = some (some u) ∧ RelV (q.2.v K) u
theorem top_of {w : World} {K : PySem.W.Frag} {h : Heap} {mg : Str → Option Value} (X : K.In h) (G : h.Ns mainGlobals mg) (c : SaysRT chk fn tabs w K) : Top w K mg := by
  have all := c.d.look
  obtain ⟨cls, all⟩ := ba2 all
  obtain ⟨_, all⟩ := ba2 all
  obtain ⟨noi, all⟩ := ba2 all
  obtain ⟨fre, all⟩ := ba2 all
  obtain ⟨_, all⟩ := ba2 all
  obtain ⟨fa, all⟩ := ba2 all
  obtain ⟨tu, di⟩ := ba2 all
  have one : ∀ i, i < 5 → gloB K (nmAt i) = true ∧ clsB K (ca K i) = true ∧ ∀ j, j < 5 → PySem.W.kitOne K (.ref (ca K i)) (.ref (ca K j)) = some (isa i j) ∧ PySem.W.exmOne K (.ref (ca K i)) (.ref (ca K j)) = some (isa i j) := by
    intro i hi
    obtain ⟨a, b⟩ := ba2 (List.all_eq_true.mp cls i (List.mem_range.mpr hi))
    obtain ⟨b, d⟩ := ba2 b
    refine ⟨a, b, fun j hj => ?_⟩
    obtain ⟨d1, d2⟩ := ba2 (List.all_eq_true.mp d j (List.mem_range.mpr hj))
    exact ⟨of_decide_eq_true d1, of_decide_eq_true d2⟩
  have glo : ∀ i, i < 5 → mg (nmAt i) = some (.ref (ca K i)) := fun i hi => gloB_ok X G (one i hi).1
  have fr : ∀ x, x ∈ frees → mg x = none := fun x hx => freeB_ok X G (List.all_eq_true.mp fre x hx)
  have ni : ∀ x, x ∈ noIni → PySem.W.excIn K (He.ga K x) He.veBase "ValueError.__new__" = true := fun x hx => List.all_eq_true.mp noi x hx
  have fc : ∀ f, f ∈ fas → He.Fa.ok K f = true := fun f hf => List.all_eq_true.mp fa f hf
  exact {
    n_ValueError := fr _ (List.mem_of_getElem? (i := 0) rfl)
    n_abs := fr _ (List.mem_of_getElem? (i := 1) rfl)
    n_all := fr _ (List.mem_of_getElem? (i := 2) rfl)
    n_bool := fr _ (List.mem_of_getElem? (i := 3) rfl)
    n_dict := fr _ (List.mem_of_getElem? (i := 4) rfl)
    n_enumerate := fr _ (List.mem_of_getElem? (i := 5) rfl)
    n_int := fr _ (List.mem_of_getElem? (i := 6) rfl)
    n_isinstance := fr _ (List.mem_of_getElem? (i := 7) rfl)
    n_len := fr _ (List.mem_of_getElem? (i := 8) rfl)
    n_list := fr _ (List.mem_of_getElem? (i := 9) rfl)
    n_max := fr _ (List.mem_of_getElem? (i := 10) rfl)
    n_range := fr _ (List.mem_of_getElem? (i := 11) rfl)
    n_repr := fr _ (List.mem_of_getElem? (i := 12) rfl)
    n_sorted := fr _ (List.mem_of_getElem? (i := 13) rfl)
    n_str := fr _ (List.mem_of_getElem? (i := 14) rfl)
    n_tuple := fr _ (List.mem_of_getElem? (i := 15) rfl)
    c_VaultError := glo 0 (by decide)
    c_BadInput := glo 1 (by decide)
    c_BadUnit := glo 2 (by decide)
    c_BadCount := glo 3 (by decide)
    c_BadText := glo 4 (by decide)
    x_VaultError := ni _ (List.mem_of_getElem? (i := 0) rfl)
    x_BadInput := ni _ (List.mem_of_getElem? (i := 1) rfl)
    ox := fun i hi => (clsB_ok (one i hi).2.1).1
    ex := fun i hi => (clsB_ok (one i hi).2.1).2
    kin := fun i j hi hj => ((one i hi).2.2 j hj).1
    exm := fun i j hi hj => ((one i hi).2.2 j hj).2
    k_Words := He.cls_ok (fc _ (List.mem_of_getElem? (i := 0) rfl))
    g_Words := He.glo_ok X G (fc _ (List.mem_of_getElem? (i := 1) rfl))
    m_Words := He.mkr_ok (fc _ (List.mem_of_getElem? (i := 2) rfl))
    m_Words_refuse := He.meth_ok (fc _ (List.mem_of_getElem? (i := 3) rfl))
    m_Words_peek := He.meth_ok (fc _ (List.mem_of_getElem? (i := 4) rfl))
    m_Words_behind := He.meth_ok (fc _ (List.mem_of_getElem? (i := 5) rfl))
    m_Words_behind_one := He.meth_ok (fc _ (List.mem_of_getElem? (i := 6) rfl))
    m_Words_take_one := He.meth_ok (fc _ (List.mem_of_getElem? (i := 7) rfl))
    m_Words_is_at_whole := He.meth_ok (fc _ (List.mem_of_getElem? (i := 8) rfl))
    m_Words_take_whole := He.meth_ok (fc _ (List.mem_of_getElem? (i := 9) rfl))
    m_Words_end := He.meth_ok (fc _ (List.mem_of_getElem? (i := 10) rfl))
    a_Words_at := He.noat_ok (fc _ (List.mem_of_getElem? (i := 11) rfl))
    a_Words_line := He.noat_ok (fc _ (List.mem_of_getElem? (i := 12) rfl))
    a_Words_words := He.noat_ok (fc _ (List.mem_of_getElem? (i := 13) rfl))
    i_PIECE := by
      obtain ⟨t, e⟩ := He.int_ok X G (x := "PIECE") (i := 60) (fc _ (List.mem_of_getElem? (i := 14) rfl))
      exact ⟨_, e, t, rfl⟩
    g_UNIT_WORDS := He.glo_ok X G (fc _ (List.mem_of_getElem? (i := 15) rfl))
    g_PLACES := He.glo_ok X G (fc _ (List.mem_of_getElem? (i := 16) rfl))
    g_NUMBERS := He.glo_ok X G (fc _ (List.mem_of_getElem? (i := 17) rfl))
    i_MOST := by
      obtain ⟨t, e⟩ := He.int_ok X G (x := "MOST") (i := 99) (fc _ (List.mem_of_getElem? (i := 18) rfl))
      exact ⟨_, e, t, rfl⟩
    t_UNIT_WORDS := fun H => tupB_ok (List.all_eq_true.mp tu _ (List.mem_of_getElem? (i := 0) rfl))
    y_UNIT_WORDS := fun H => tupB_ty (List.all_eq_true.mp tu _ (List.mem_of_getElem? (i := 0) rfl))
    d_PLACES := c.tab 0 rfl
    v_PLACES := fun q hq => He.valsB_ok (List.all_eq_true.mp di _ (List.mem_of_getElem? (i := 0) rfl)) hq
    d_NUMBERS := c.tab 1 rfl
    v_NUMBERS := fun q hq => He.valsB_ok (List.all_eq_true.mp di _ (List.mem_of_getElem? (i := 1) rfl)) hq }
theorem glo_fn {K : PySem.W.Frag} {h : Heap} {mg : Str → Option Value} (X : K.In h) (G : h.Ns mainGlobals mg) (c : SaysR chk fn K) {x : Str} (m : x ∈ fns) : mg x = some (.ref (He.ga K x)) :=
  gloB_ok X G (List.all_eq_true.mp (ba2 (ba2 (ba2 (ba2 (ba2 c.look).2).2).2).2).1 x m)
abbrev Fn (K : PySem.W.Frag) (x : Str) (st : Stmt) (fd : FuncData) : Prop := FunD K x x (defArgs st) (defBody st) (defScope st) [] [] (He.ga K x) fd
end L2.K32
set_option Elab.async false
set_option linter.all false
set_option maxRecDepth 100000
set_option maxHeartbeats 4000000
/-! Defs of the text that raise, that take further arguments by a star; calls by the name of the one parameter. -/
namespace L2.RV
open PySem PySem.Spec PyProof.Rows
theorem bind_ofN {K : PySem.W.Frag} {x qual : Str} {params : Arguments} {body : List Stmt} {scope : Scope} {f : Addr} {fd : FuncData} {args : Args} {bs : List (Str × Value)} (F : FunD K x qual params body scope [] [] f fd)
    (b : ∀ (kV doc pm : Value) (an : Option Addr) (cdv ct : Value), bindArgs (PySem.W.fnOf x qual params body scope .none kV doc pm an cdv ct) args = pure bs) (s : Shared) : BindsTo s fd args bs := by
  obtain ⟨oc, od, dV, kV, doc, pm, an, cdv, ct, osl, rfl, lk, hcd, hD, hK⟩ := F.ex
  rcases hD with ⟨_, rfl⟩ | ⟨e, _⟩
  · exact .of_eq (b kV doc pm an cdv ct)
  · exact absurd rfl e
/-- the module's def x, with its promise; with one parameter it may be handed by its name -/
structure DefX (CX : CXT) (P : Program) (w : World) (K : PySem.W.Frag) (mg : Str → Option Value) (base : Heap) (x : Str) (k : Nat) (ps : List Str) (sp : Sp) : Prop where
  ex : ∃ f fd, mg x = some (.ref f) ∧ PySem.W.keepIn K (.ref f) = true ∧ Binds K fd ps [] ∧ FnOk P w K mg base CX k f fd ps sp ∧ ∀ p, ps = [p] → ∀ (s : Shared) (u : Value), BindsTo s fd ⟨[], [(p, u)]⟩ [(p, u)]
/-- def x(p, *q) -/
structure DefR (CX : CXT) (P : Program) (w : World) (K : PySem.W.Frag) (mg : Str → Option Value) (base : Heap) (x : Str) (k : Nat) (p : Str) (sp : Sp) : Prop where
  ex : ∃ f, mg x = some (.ref f) ∧ PySem.W.keepIn K (.ref f) = true ∧ FnR P w K mg base CX k f sp ∧
    ∀ (A : Around) (outer : List Env) (s : Shared) (H : Hp) (u : Value) (v : V) (Q : VK) (E : XK), Room k A → Env0 P w K mg base A outer s H → RelV v u → sp [v] H Q E → codeAny (model P w) A (.call (.ref f) ⟨[], [(p, u)]⟩) (CR CX outer P w H s Q E) s
section
variable {P : Program} {w : World} {K : PySem.W.Frag} {mg : Str → Option Value} {base : Heap} {CX : CXT} {k : Nat} {x qual pv p1 : Str} {params : Arguments} {body : List Stmt} {scope : Scope} {f : Addr} {fd : FuncData} {N : List Str} {sp : Sp}
/-- what a body shows of a def with a star -/
theorem starOk (F : FunD K x qual params body scope [] [] f fd) (S : FnScope N [p1, pv] scope) (hCX : StX.CXUp CX)
    (h0 : ∀ (kV doc pm : Value) (an : Option Addr) (cdv ct a : Value), bindArgs (PySem.W.fnOf x qual params body scope .none kV doc pm an cdv ct) ⟨[a], []⟩ = (newTuple [] >>= fun t => pure [(p1, a), (pv, t)]))
    (h1 : ∀ (kV doc pm : Value) (an : Option Addr) (cdv ct a r : Value) (rs : List Value), bindArgs (PySem.W.fnOf x qual params body scope .none kV doc pm an cdv ct) ⟨a :: r :: rs, []⟩ = (newTuple (r :: rs) >>= fun t => pure [(p1, a), (pv, t)]))
    (h2 : ∀ (kV doc pm : Value) (an : Option Addr) (cdv ct a : Value), bindArgs (PySem.W.fnOf x qual params body scope .none kV doc pm an cdv ct) ⟨[], [(p1, a)]⟩ = (newTuple [] >>= fun t => pure [(p1, a), (pv, t)]))
    (hbody : ∀ (cdv : Value) (A : Around) (outer : List Env) (s : Shared) (H : Hp) (vs : List V) (Q : VK) (E : XK), Room k (A.deeper (envOfC qual scope s.heap.objs.size f cdv)) → sp vs H Q E →
      ∃ t, PSs (cxOf CX P w K mg base N qual scope f cdv A outer s H E) body t ∧ t { nx := fun _ H' => Q .non H', rt := Q } (start N vs) H) :
    FnR P w K mg base CX (k + 1) f (fun vs H Q E => ∃ v rest, vs = v :: rest ∧ rest.length ≤ sizeLine ∧ ∀ p, H p = Option.none → sp [v, V.ref p] (upd H p (.tup rest)) Q E) ∧
    ∀ (A : Around) (outer : List Env) (s : Shared) (H : Hp) (u : Value) (v : V) (Q : VK) (E : XK), Room (k + 1) A → Env0 P w K mg base A outer s H → RelV v u → (∀ p, H p = Option.none → sp [v, V.ref p] (upd H p (.tup [])) Q E) →
      codeAny (model P w) A (.call (.ref f) ⟨[], [(p1, u)]⟩) (CR CX outer P w H s Q E) s := by
  obtain ⟨oc, od, dV, kV, doc, pm, an, cdv, ct, osl, rfl, lk, hcd, hD, hK⟩ := F.ex
  rcases hD with ⟨_, rfl⟩ | ⟨e, _⟩
  · refine ⟨?_, ?_⟩
    · refine FnR.imp (StX.fn_star (ps := [p1]) (sp := sp) lk hcd S hCX (StX.bind_star1 (B := fun us => bindArgs _ ⟨us, []⟩) (fun a => h0 kV doc pm an cdv ct a) (fun a r rs => h1 kV doc pm an cdv ct a r rs)) (fun A outer s H vs Q E hr hs => hbody cdv A outer s H vs Q E hr hs)) fun vs H Q E hs => ?_
      obtain ⟨v, rest, rfl, l, q⟩ := hs
      exact ⟨[v], rest, rfl, rfl, l, q⟩
    · intro A outer s H u v Q E hr e0 rv hq
      have hn : H s.heap.objs.size = Option.none := e0.hok.fresh (Nat.le_refl _)
      refine StX.run_bnd lk hcd S hr e0 (G := fun xs H2 => ∃ p, H p = Option.none ∧ xs = [v] ++ [V.ref p] ∧ H2 = upd H p (.tup [])) (fun A' Ex Q' h => ?_) fun s2 H2 xs ⟨p, hp, ex, eH⟩ hr' => ?_
      · rw [h2 kV doc pm an cdv ct u]
        refine wpAny_bind (wpAny_newTuple (wpAny_pure ?_) (by decide))
        have new : ObjOk P w (upd H s.heap.objs.size (.tup [])) (s.heap.push ({ cls := .type "tuple", data := .seq ([] : List Value).toArray } : Obj)) s.heap.objs.size (.tup []) := ⟨by decide, [], .nil, ⟨_, Heap.get?_push_size _ rfl, rfl, _, rfl⟩⟩
        have un := StX.un_laid (fs := frs outer) (s := s) (o := ({ cls := .type "tuple", data := .seq ([] : List Value).toArray } : Obj)) (u := .tup []) hn
        exact h _ _ ([v] ++ [V.ref s.heap.objs.size]) ([u] ++ [Value.ref s.heap.objs.size]) (StX.env0_laid e0 new) un rfl (fun e s' => hCX outer s H _ _ E e s' un (fun b o q => Heap.get?_push_of_some _ q) rfl) (.cons rv (.cons rfl .nil)) rfl ⟨_, hn, rfl, rfl⟩
      · subst ex eH
        exact hbody cdv A outer s2 _ _ Q E hr' (hq p hp)
  · exact absurd rfl e
end
section
variable {X : Cx} {CX : CXT} {k : Nat} {ps : List Str} {sp : Sp} {E : XK} {x p1 : Str} {p pos kp : Pos} {e : Expr} {es : List Expr} {te : TE} {t : TA}
theorem pe_callX (D : DefX CX X.prog X.w X.K X.mg X.base x k ps sp) (hr : Room k X.A) (hg : Gl X x) (hx : Passes CX X E) (ha : PA X (e :: es) t) (hdb : (x == ("__debug__" : Str)) = false := by decide)
    (he : starEach (e :: es) X.env = (false, eval e X.env) :: starEach es X.env := by rfl) (hpl : (backTo pos (starEach es X.env)).any (·.1) = false := by rfl) : PE X (.Call (.Name x p) (e :: es) [] pos) (tCall sp [] E t) := by
  obtain ⟨f, fd, g, kp, b, F, _⟩ := D.ex
  exact pe_call F hr hg g kp b .nil hx ha hdb he hpl
/-- x(p = e) -/
theorem pe_callXK (D : DefX CX X.prog X.w X.K X.mg X.base x k [p1] sp) (hr : Room k X.A) (hg : Gl X x) (hx : Passes CX X E) (ha : PE X e te) (hdb : (x == ("__debug__" : Str)) = false := by decide) (hall : (backToKw pos (keywordEach [⟨some p1, e, kp⟩] X.env)).all (·.1.isSome) = true := by rfl)
    (hks : (backToKw pos (keywordEach [⟨some p1, e, kp⟩] X.env)).filterMap (·.1) = [p1] := by rfl)
    (hpl : ((backTo pos (starEach [] X.env)).any (·.1) || (backToKw pos (keywordEach [⟨some p1, e, kp⟩] X.env)).any (·.1.isNone)) = false := by rfl) : PE X (.Call (.Name x p) [] [⟨some p1, e, kp⟩] pos) (tCall sp [] E (tCons te tNil)) := by
  obtain ⟨f, fd, g, kp', b, F, kw⟩ := D.ex
  constructor
  intro pins s σ H Q I h
  apply wpAny_Call_Name_kw
  refine ld_glob I hg g ?_ hdb
  refine PySem.W.callWith_KW0 (h₀ := X.base) I.ok.mod.kin kp' hall ?_ hpl
  refine kws1 (R := fun v H1 => sp [v] H1 Q E) ha I h (fun u s1 v H1 I1 r q => ⟨I1.kIn, ?_⟩)
  rw [hks]
  refine wpAny_call (codeAny_mono (F.run X.A X.stack s1 H1 ⟨[], [(p1, u)]⟩ [u] [v] Q E hr I1.env0 (kw p1 rfl s1 u) (.cons r .nil) q) fun r s' hq => ?_)
  cases r with
  | error e => exact hx pins σ H1 s1 e s' I1 hq
  | ok fl =>
    cases fl with
    | ret u => exact I1.after hq
    | next => exact False.elim hq
    | brk => exact False.elim hq
    | cont => exact False.elim hq
theorem pe_callR (D : DefR CX X.prog X.w X.K X.mg X.base x k p1 sp) (hr : Room k X.A) (hg : Gl X x) (hx : Passes CX X E) (ha : PA X (e :: es) t) (hdb : (x == ("__debug__" : Str)) = false := by decide)
    (he : starEach (e :: es) X.env = (false, eval e X.env) :: starEach es X.env := by rfl) (hpl : (backTo pos (starEach es X.env)).any (·.1) = false := by rfl) : PE X (.Call (.Name x p) (e :: es) [] pos) (tCall sp [] E t) := by
  obtain ⟨f, g, kp, F, _⟩ := D.ex
  refine ⟨fun pins s σ H Q I h => ?_⟩
  refine wpAny_Call_Name_kw (ld_glob I hg g ?_ hdb)
  refine PySem.W.callWith_K (h₀ := X.base) I.ok.mod.kin kp (thn (ha.run pos pins s σ H _ I h) fun us s1 ⟨vs, H1, I1, r, q⟩ => ⟨I1.kIn, ?_⟩) he hpl
  have q' : sp (vs ++ []) H1 Q E := q
  rw [List.append_nil] at q'
  exact wpAny_call (run_fnR F hr hx I1 r q')
theorem pe_callRK (D : DefR CX X.prog X.w X.K X.mg X.base x k p1 sp) (hr : Room k X.A) (hg : Gl X x) (hx : Passes CX X E) (ha : PE X e te) (hdb : (x == ("__debug__" : Str)) = false := by decide) (hall : (backToKw pos (keywordEach [⟨some p1, e, kp⟩] X.env)).all (·.1.isSome) = true := by rfl)
    (hks : (backToKw pos (keywordEach [⟨some p1, e, kp⟩] X.env)).filterMap (·.1) = [p1] := by rfl)
    (hpl : ((backTo pos (starEach [] X.env)).any (·.1) || (backToKw pos (keywordEach [⟨some p1, e, kp⟩] X.env)).any (·.1.isNone)) = false := by rfl) : PE X (.Call (.Name x p) [] [⟨some p1, e, kp⟩] pos) (tCall sp [] E (tCons te tNil)) := by
  obtain ⟨f, g, kp', F, kw⟩ := D.ex
  constructor
  intro pins s σ H Q I h
  apply wpAny_Call_Name_kw
  refine ld_glob I hg g ?_ hdb
  refine PySem.W.callWith_KW0 (h₀ := X.base) I.ok.mod.kin kp' hall ?_ hpl
  refine kws1 (R := fun v H1 => sp [v] H1 Q E) ha I h (fun u s1 v H1 I1 r q => ⟨I1.kIn, ?_⟩)
  rw [hks]
  refine wpAny_call (codeAny_mono (kw X.A X.stack s1 H1 u v Q E hr I1.env0 r q) fun r s' hq => ?_)
  cases r with
  | error e => exact hx pins σ H1 s1 e s' I1 hq
  | ok fl =>
    cases fl with
    | ret u => exact I1.after hq
    | next => exact False.elim hq
    | brk => exact False.elim hq
    | cont => exact False.elim hq
end
end L2.RV
set_option Elab.async false
set_option linter.all false
set_option maxRecDepth 100000
set_option maxHeartbeats 4000000
/-! Methods of the text, bundled for their callers. -/
namespace L2.RV
open PySem PySem.Spec PyProof.Rows
/-- C's method m, with its promise -/
structure MethX (CX : CXT) (P : Program) (w : World) (K : PySem.W.Frag) (mg : Str → Option Value) (base : Heap) (C : Addr) (m : Str) (k : Nat) (ps : List Str) (sp : Sp) : Prop where
  ex : ∃ f fd, Meth K C m f ∧ Binds K fd ps [] ∧ FnOk P w K mg base CX k f fd ps sp
section
variable {X : Cx} {CX : CXT} {C : Addr} {k : Nat} {ps : List Str} {sp : Sp} {E : XK} {m : Str} {apos pos : Pos} {o e : Expr} {es : List Expr} {ta : TE} {t : TA} {pl : Sem Bool}
theorem pe_mX (D : MethX CX X.prog X.w X.K X.mg X.base C m k ps sp) (c : Cls X.K C) (hr : Room k X.A) (hx : Passes CX X E) (he : PE X o ta) (ha : PA X (e :: es) t)
    (hst : starEach (e :: es) X.env = (false, eval e X.env) :: starEach es X.env := by rfl) (hpl : (backTo pos (starEach es X.env)).any (·.1) = false := by rfl)
    (ht : eval (.Call (.Attribute o m apos) (e :: es) [] pos) X.env = (do
      let ov ← eval o X.env
      standAt apos.atName
      let (f, first) ← holding [ov] (getMethod ov m pl)
      callWith pos f first (backTo pos (starEach (e :: es) X.env)) (backToKw pos (keywordEach [] X.env))) := by rfl) :
    PE X (.Call (.Attribute o m apos) (e :: es) [] pos) (tMeth C m sp [] E ta t) := by
  obtain ⟨f, fd, hm, b, F⟩ := D.ex
  exact pe_meth he c hm F hr b .nil hx ha hst hpl ht
theorem pe_mX0 (D : MethX CX X.prog X.w X.K X.mg X.base C m k ps sp) (c : Cls X.K C) (hr : Room k X.A) (hx : Passes CX X E) (he : PE X o ta)
    (ht : eval (.Call (.Attribute o m apos) [] [] pos) X.env = (do
      let ov ← eval o X.env
      standAt apos.atName
      let (f, first) ← holding [ov] (getMethod ov m pl)
      callWith pos f first (backTo pos (starEach [] X.env)) (backToKw pos (keywordEach [] X.env))) := by rfl) :
    PE X (.Call (.Attribute o m apos) [] [] pos) (tMeth C m sp [] E ta tNil) := by
  obtain ⟨f, fd, hm, b, F⟩ := D.ex
  exact pe_meth0 he c hm F hr b .nil hx ht
end
theorem pass_CX0 {X : Cx} : Passes CX0 X E0 := fun _ _ _ _ _ _ _ h => h.elim
end L2.RV
namespace L2.RV
open PySem PySem.Spec PyProof.Rows
/-- the class x, made with some arguments, dvs its further defaults -/
structure MakeX (CX : CXT) (P : Program) (w : World) (K : PySem.W.Frag) (mg : Str → Option Value) (base : Heap) (x : Str) (C : Addr) (k : Nat) (ps : List Str) (dvs : List V) (sp : Sp) : Prop where
  ex : ∃ f fd ds, Mk K C f ∧ mg x = some (.ref C) ∧ Binds K fd ps ds ∧ Vals dvs ds ∧ FnOk P w K mg base CX k f fd ps sp
theorem pe_mkX {X : Cx} {CX : CXT} {x : Str} {C : Addr} {k : Nat} {ps : List Str} {dvs : List V} {sp : Sp} {E : XK} {p pos : Pos} {e : Expr} {es : List Expr} {t : TA} (D : MakeX CX X.prog X.w X.K X.mg X.base x C k ps dvs sp) (hr : Room (k + 1) X.A) (hg : Gl X x) (hx : Passes CX X E)
    (ha : PA X (e :: es) t) (hdb : (x == ("__debug__" : Str)) = false := by decide) (he : starEach (e :: es) X.env = (false, eval e X.env) :: starEach es X.env := by rfl) (hpl : (backTo pos (starEach es X.env)).any (·.1) = false := by rfl) :
    PE X (.Call (.Name x p) (e :: es) [] pos) (tMake C sp dvs E t) := by
  obtain ⟨f, fd, ds, M, hm, b, v, F⟩ := D.ex
  exact pe_make M F hr hg hm b v hx ha hdb he hpl
end L2.RV
namespace L2.RV
open PySem PySem.Spec PyProof.Rows
/-- the module's def x, dvs its further defaults -/
structure DefXD (CX : CXT) (P : Program) (w : World) (K : PySem.W.Frag) (mg : Str → Option Value) (base : Heap) (x : Str) (k : Nat) (ps : List Str) (dvs : List V) (sp : Sp) : Prop where
  ex : ∃ f fd ds, mg x = some (.ref f) ∧ PySem.W.keepIn K (.ref f) = true ∧ Binds K fd ps ds ∧ Vals dvs ds ∧ FnOk P w K mg base CX k f fd ps sp
theorem pe_callXD {X : Cx} {CX : CXT} {x : Str} {k : Nat} {ps : List Str} {dvs : List V} {sp : Sp} {E : XK} {p pos : Pos} {e : Expr} {es : List Expr} {t : TA} (D : DefXD CX X.prog X.w X.K X.mg X.base x k ps dvs sp) (hr : Room k X.A) (hg : Gl X x) (hx : Passes CX X E)
    (ha : PA X (e :: es) t) (hdb : (x == ("__debug__" : Str)) = false := by decide) (he : starEach (e :: es) X.env = (false, eval e X.env) :: starEach es X.env := by rfl) (hpl : (backTo pos (starEach es X.env)).any (·.1) = false := by rfl) :
    PE X (.Call (.Name x p) (e :: es) [] pos) (tCall sp dvs E t) := by
  obtain ⟨f, fd, ds, g, kp, b, v, F⟩ := D.ex
  exact pe_call F hr hg g kp b v hx ha hdb he hpl
end L2.RV
set_option Elab.async false
set_option linter.all false
set_option maxRecDepth 100000
set_option maxHeartbeats 4000000
/-! Defs that make lambdas, and the def that is handed one; what stays where tables grow. -/
namespace L2.RV
open PySem PySem.Spec PyProof.Rows
section
variable {P : Program} {w : World} {K : PySem.W.Frag} {mg : Str → Option Value} {base : Heap} {x qual : Str} {params : Arguments} {body : List Stmt} {scope : Scope} {dvs : List V} {kws : List (Str × V)} {fd : FuncData}
/-- as okG; the code object is the one that the def's place tells -/
theorem okGC {CX : CXT} {N ps : List Str} {k : Nat} {sp : Sp} {p : He.Defn} (F : FunD K x qual params body scope dvs kws (He.fAd K p) fd) (S : FnScope N ps scope) (many : ∀ vs H Q E, sp vs H Q E → vs.length = ps.length)
    (hb : ∀ (A : Around) (outer : List Env) (s : Shared) (H : Hp) (vs : List V) (Q : VK) (E : XK), A.guards = some [] → Room k (A.deeper (envOfC qual scope s.heap.objs.size (He.fAd K p) (.ref (He.codeOf K p)))) → sp vs H Q E →
      ∃ t, PSs (cxOf CX P w K mg base N qual scope (He.fAd K p) (.ref (He.codeOf K p)) A outer s H E) body t ∧ t { nx := fun _ H' => Q .non H', rt := Q } (start N vs) H) : FnG P w K mg base CX (k + 1) (He.fAd K p) fd ps sp := by
  obtain ⟨oc, od, dV, kV, doc, pm, an, cdv, ct, osl, rfl, lk, hcd, _, _⟩ := F.ex
  obtain ⟨c, rfl⟩ := He.codeIn_ref hcd
  have e : He.codeOf K p = c := He.codeOf_eq lk rfl
  subst e
  exact fnG_of lk hcd S many fun A outer s H vs Q E hg hr hsp => hb A outer s H vs Q E hg hr hsp
end
/-- the def x of one parameter a that is handed a lambda -/
structure LamD (K : PySem.W.Frag) (mg : Str → Option Value) (x a : Str) (st : Stmt) : Prop where
  ex : ∃ (g : Addr) (oc : Value) (od : Option Addr) (pg : Arguments) (dV kV doc pm : Value) (an : Option Addr) (cdv ct : Value) (osl : Array (Option Value)), mg x = some (.ref g) ∧ PySem.W.keepIn K (.ref g) = true ∧
    K.lookup g = some ⟨oc, od, .func (PySem.W.fnOf x x pg (defBody st) (defScope st) dV kV doc pm an cdv ct), osl⟩ ∧ PySem.W.codeIn K cdv x = true ∧ Binds K (PySem.W.fnOf x x pg (defBody st) (defScope st) dV kV doc pm an cdv ct) [a] []
theorem lamD_of {K : PySem.W.Frag} {mg : Str → Option Value} {x a : Str} {st : Stmt} {params : Arguments} {f : Addr} {fd : FuncData} (F : FunD K x x params (defBody st) (defScope st) [] [] f fd) (hm : mg x = some (.ref f)) (b : Binds K fd [a] []) : LamD K mg x a st := by
  obtain ⟨oc, od, dV, kV, doc, pm, an, cdv, ct, osl, rfl, lk, hcd, _, _⟩ := F.ex
  exact ⟨f, oc, od, params, dV, kV, doc, pm, an, cdv, ct, osl, hm, F.kp, lk, hcd, b⟩
/-- x(lambda: body) -/
theorem pe_lamX {X : Cx} {T : List (Addr × Str)} {TT : (XK → Hp → VK → Prop) → Hp → VK → Prop} {x a : Str} {st : Stmt} {c P : Addr} {k : Nat} {Ng : List Str} {params : Arguments} {body : Expr} {scope : Scope} {t : XK → TE} {p lpos pos : Pos} (D : LamD X.K X.mg x a st) (hg : Gl X x)
    (Sg : FnScope Ng [a] (defScope st)) (hNg : Ng[0]? = some a) (hva : Vis (defScope st) a) (hG : ∀ (g : Addr) (cdg : Value), LamX.GivesTo X Ng x (defScope st) g cdg (defBody st) a (X.env.qual ++ "<lambda>") TT)
    (TB : LamX.TabB X.base X.mg c P) (hcode : X.env.code = .ref c) (hmT : (P, X.env.qual ++ "<lambda>") ∈ T) (hu : ∀ p ∈ T, p.1 = P → p.2 = X.env.qual ++ "<lambda>") (hr : Room (k + 2) X.A) (L : LamX.LamS X.env.scope scope) (hdef : defaultsOf params X.env = ([], []))
    (hbind : ∀ (q : Str) (cl : List (Str × Addr)) (pm cv ctv : Value), bindArgs (PySem.W.kla_fn "<lambda>" q params body scope cl pm cv ctv) ⟨[], []⟩ = pure [])
    (hbody : ∀ (A : Around) (outer : List Env) (s : Shared) (H : Hp) (E : XK) (f c' : Addr), Room k (A.deeper (LamX.lamEnv X scope s.heap.objs.size f c')) → PE (LamX.lamCx X A outer s H E scope f c') body (t E))
    (hdb : (x == ("__debug__" : Str)) = false := by decide) (hd : (a == ("__debug__" : Str)) = false := by decide) (hcd : (a == ("__classdict__" : Str)) = false := by decide) :
    PE X (.Call (.Name x p) [.Lambda params body scope lpos] [] pos) (LamX.tLam T TT t) := by
  obtain ⟨g, oc, od, pg, dV, kV, doc, pm, an, cdv, ct, osl, hm, kp, lk, hcg, b⟩ := D.ex
  exact LamX.pe_lamcall hg hm kp lk hcg b Sg hNg hva (hG g cdv) TB hcode hmT hu hr L hdef hbind hbody hdb hd hcd
/-! ### what stays -/
/-- all but the list at p and the tables stays -/
def KeepN (p : Addr) (H H' : Hp) : Prop := ∀ b o, b ≠ p → H b = some o → (∀ ps, o ≠ .tbl ps) → H' b = some o
theorem KeepN.refl {p : Addr} {H : Hp} : KeepN p H H := fun _ _ _ h _ => h
theorem KeepN.trans {p : Addr} {H H1 H2 : Hp} (a : KeepN p H H1) (b : KeepN p H1 H2) : KeepN p H H2 := fun c o n h z => b c o n (a c o n h z) z
theorem KeepN.ofExt {p : Addr} {H H' : Hp} (e : LamX.ExtN H H') : KeepN p H H' := fun b o _ h z => e b o h z
theorem KeepN.same {p : Addr} {H H' : Hp} (e : Same H H') : KeepN p H H' := fun b o _ h _ => e b o h
theorem Keep.n {p : Addr} {H H' : Hp} (e : Keep p H H') : KeepN p H H' := fun b o n h _ => e b o n h
theorem ext_same {H H' : Hp} (e : Same H H') : LamX.ExtN H H' := LamX.ExtN.of e
theorem tabs_same {TS : List (Addr × Str)} {H H' : Hp} (t : LamX.Tabs TS H) (e : Same H H') : LamX.Tabs TS H' := t.ext e
theorem tabs_keep {TS : List (Addr × Str)} {p : Addr} {xs : List V} {H H' : Hp} (t : LamX.Tabs TS H) (hp : H p = some (.lst xs)) (e : Keep p H H') : LamX.Tabs TS H' := fun P hP => by
  obtain ⟨ps, h1, h2, h3⟩ := t P hP
  refine ⟨ps, e _ _ (fun z => ?_) h1, h2, fun pos cv hc => ?_⟩
  · rw [z, hp] at h1
    cases h1
  · obtain ⟨c, e1, e2⟩ := h3 pos cv hc
    refine ⟨c, e1, e _ _ (fun z => ?_) e2⟩
    rw [z, hp] at e2
    unfold LamX.CodeO at e2
    cases e2
end L2.RV
set_option Elab.async false
set_option linter.all false
set_option maxRecDepth 100000
set_option maxHeartbeats 4000000
/-! The end of a law's proof where defs make lambdas: the tables of their code objects are empty at first, and grow. -/
namespace L2.RV
open PySem PySem.Spec PyProof.Rows
abbrev noTab : Obj := { cls := .none, data := .fields #[] }
/-- what is tracked at first: the tables of ts, and the script's list at a where it is not K's -/
def seed (ts : List Addr) (own : Bool) (a : Addr) (vs : List Value) (ns : List Int) : Hp := fun b =>
  if b ∈ ts then some (.tbl #[]) else if b = a ∧ own = true then some (.frz (listObj vs) (.lst (ns.map V.int))) else none
section
variable {ts : List Addr} {own : Bool} {a b : Addr} {vs : List Value} {ns : List Int}
theorem seed_tab (h : b ∈ ts) : seed ts own a vs ns b = some (.tbl #[]) := if_pos h
theorem seed_own (n : a ∉ ts) : seed ts true a vs ns a = some (.frz (listObj vs) (.lst (ns.map V.int))) := by
  unfold seed
  rw [if_neg n, if_pos ⟨rfl, rfl⟩]
theorem seed_case {u : HO} (h : seed ts own a vs ns b = some u) : (b ∈ ts ∧ u = .tbl #[]) ∨ (b ∉ ts ∧ b = a ∧ own = true ∧ u = .frz (listObj vs) (.lst (ns.map V.int))) := by
  unfold seed at h
  by_cases m : b ∈ ts
  · rw [if_pos m] at h
    exact .inl ⟨m, (Option.some.inj h).symm⟩
  · rw [if_neg m] at h
    by_cases c : b = a ∧ own = true
    · rw [if_pos c] at h
      exact .inr ⟨m, c.1, c.2, (Option.some.inj h).symm⟩
    · rw [if_neg c] at h
      cases h
end
theorem lawTG {P : Program} {w : World} {K : PySem.W.Frag} {mg mb : Str → Option Value} {CX : CXT} {k : Nat} {fa a : Addr} {tf : List (Addr × Addr)} {fd : FuncData} {x : Str} {sp : Sp} {s : Shared} {vs : List Value} {ns : List Int}
    (KX : K.In s.heap) (G : s.heap.Ns mainGlobals mg) (B : s.heap.Ns builtinsNs mb) (hB : ∀ x : Str, x ≠ "__name__" → mb x = bootBuiltins x) (lim : s.heap.NoLimit) (gens : s.gens = #[])
    (blank : ∀ t ∈ tf, s.heap.get? t.2 = some noTab) (out : ∀ t ∈ tf, K.lookup t.2 = none) (code : ∀ t ∈ tf, PySem.W.CodeHd s.heap t.1 t.2)
    (mod : ∃ (bm : Addr) (ob : Obj), mg "__builtins__" = some (.ref bm) ∧ bm ≠ builtinsNs ∧ s.heap.get? bm = some ob ∧ ob.cls = .type "module" ∧ ob.dict = some builtinsNs ∧ ob.data = .plain)
    (at_ : s.heap.get? a = some (listObj vs)) (areI : IntsAre vs ns) (few : ns.length ≤ sizeLine) (room : Room k callerA)
    (F : ∀ base : Heap, K.In base → base.Ns mainGlobals mg → (∀ t ∈ tf, LamX.TabB base mg t.1 t.2) → FnG P w K mg base CX k fa fd [x] sp) (bind : ∀ (s : Shared) (u : Value), BindsTo s fd ⟨[u], []⟩ [(x, u)])
    (hsp : ∀ H : Hp, (∀ t ∈ tf, H t.2 = some (.tbl #[])) → SqL K H a (ns.map V.int) → sp [.ref a] H (fun v _ => v = .bl true) fun _ _ _ => False)
    (no : ∀ H e s', CX [] H s (fun _ _ _ => False) e s' → False) :
    codeAny (model P w) callerA (.call (.ref fa) ⟨[.ref a], []⟩) (fun r s' => r = .ok (.ret (.bool true)) ∧ OldK s.heap s'.heap ∧ s'.os = s.os ∧ AllBare s'.gens) s := by
  have vals : Vals (ns.map V.int) vs := vals_ints areI
  have short : (ns.map V.int).length ≤ sizeLine := by rw [List.length_map]; exact few
  have size : vs.toArray.size ≤ sizeLine := by rw [List.size_toArray, areI.length]; exact few
  let T := tf.map (·.2)
  have inT : ∀ t ∈ tf, t.2 ∈ T := fun t m => List.mem_map_of_mem m
  have blankT : ∀ b ∈ T, s.heap.get? b = some noTab := fun b m => by
    obtain ⟨t, mt, rfl⟩ := List.mem_map.mp m
    exact blank t mt
  have outT : ∀ b ∈ T, K.lookup b = none := fun b m => by
    obtain ⟨t, mt, rfl⟩ := List.mem_map.mp m
    exact out t mt
  have aT : a ∉ T := fun m => by
    have z := at_.symm.trans (blankT a m)
    injection z with z
    injection z with _ _ z
    cases z
  have main : ∀ own : Bool, (own = true → K.lookup a = none) → SqL K (seed T own a vs ns) a (ns.map V.int) →
      codeAny (model P w) callerA (.call (.ref fa) ⟨[.ref a], []⟩) (fun r s' => r = .ok (.ret (.bool true)) ∧ OldK s.heap s'.heap ∧ s'.os = s.os ∧ AllBare s'.gens) s := by
    intro own free seq
    have stands : HOk P w (seed T own a vs ns) s.heap := by
      intro b u e
      rcases seed_case e with ⟨m, rfl⟩ | ⟨_, rfl, _, rfl⟩
      · exact blankT b m
      · exact ⟨at_, short, vs, _, vals, at_⟩
    have hidden : ∀ {b : Addr} {o : Obj}, s.heap.get? b = some o → o ≠ noTab → o ≠ listObj vs → (hidT s.heap (seed T own a vs ns)).get? b = some o := by
      intro b o e n1 n2
      apply hidT_get e
      cases q : seed T own a vs ns b with
      | none => rfl
      | some u =>
        rcases seed_case q with ⟨m, _⟩ | ⟨_, rfl, _⟩
        · exact absurd (Option.some.inj (e.symm.trans (blankT b m))) n1
        · exact absurd (Option.some.inj (e.symm.trans at_)) n2
    have spaces : ∀ {b : Addr} {m : Str → Option Value}, s.heap.Ns b m → (hidT s.heap (seed T own a vs ns)).Ns b m := by
      rintro b m ⟨o, es, ep, e, d, more⟩
      refine ⟨o, es, ep, hidden e (fun z => ?_) (fun z => ?_), d, more⟩ <;> rw [z] at d <;> cases d
    have inK : K.In (hidT s.heap (seed T own a vs ns)) := by
      intro b o e
      apply hidT_get (KX b o e)
      cases q : seed T own a vs ns b with
      | none => rfl
      | some u =>
        rcases seed_case q with ⟨m, _⟩ | ⟨_, rfl, y, _⟩
        · rw [outT b m] at e
          cases e
        · rw [free y] at e
          cases e
    have tabB : ∀ t ∈ tf, LamX.TabB (hidT s.heap (seed T own a vs ns)) mg t.1 t.2 := by
      intro t mt
      refine ⟨?_, ?_, ?_⟩
      · obtain ⟨o, us, f1, f2, f3, f4, f5, f6, f7, e, r1, r2, rest⟩ := code t mt
        refine ⟨o, us, f1, f2, f3, f4, f5, f6, f7, hidden e (fun z => ?_) (fun z => ?_), r1, r2, rest⟩
        · rw [z] at r1
          cases r1
        · rw [z] at r2
          cases r2
      · obtain ⟨bm, ob, m1, m2, m3, m4, m5, m6⟩ := mod
        refine ⟨bm, ob, m1, m2, fun z => ?_, fun z => ?_, hidden m3 (fun z => ?_) (fun z => ?_), m4, m5, m6⟩
        · obtain ⟨o, es, ep, e, d, _⟩ := G
          rw [z, e] at m3
          injection m3 with m3
          rw [m3, m6] at d
          cases d
        · rw [z, blank t mt] at m3
          injection m3 with m3
          rw [← m3] at m4
          cases m4
        · rw [z] at m4
          cases m4
        · rw [z] at m6
          cases m6
      · intro z
        obtain ⟨o, es, ep, e, d, _⟩ := G
        rw [z, blank t mt] at e
        injection e with e
        rw [← e] at d
        cases d
    have entry : Env0 P w K mg (hidT s.heap (seed T own a vs ns)) callerA [] s (seed T own a vs ns) := by
      refine ⟨rfl, ⟨inK, spaces G, ⟨mb, spaces B, hB⟩, ?_⟩, fun b o e => of_hidT e, Nat.le_of_eq (hidT_size _ _), trivial, fun b hb => ?_, stands, .of_eq gens⟩
      · obtain ⟨mc, h1, h2⟩ := lim
        exact ⟨mc, spaces h1, h2⟩
      · exact absurd (show b ∈ ([] : List Addr) from hb) (by simp)
    refine codeAny_mono ((F _ inK (spaces G) tabB).go callerA [] s _ ⟨[.ref a], []⟩ [.ref a] [.ref a] _ _ rfl room entry (bind s (.ref a)) (.cons rfl .nil) (hsp _ (fun t mt => seed_tab (inT t mt)) seq)) ?_
    intro r s' h
    match r, h with
    | .error e, h => exact (no _ e s' h).elim
    | .ok .next, h => exact h.elim
    | .ok .brk, h => exact h.elim
    | .ok .cont, h => exact h.elim
    | .ok (.ret u), h =>
      obtain ⟨v, H', os, bare, un, stands', rel, q⟩ := h
      have q' : v = .bl true := q
      subst q'
      obtain rfl : u = Value.bool true := rel
      have grown : ∀ b ∈ T, ∃ more : Array Value, s'.heap.get? b = some { cls := .none, data := .fields more } := by
        intro b m
        obtain ⟨more, z⟩ := un.tbls b #[] (seed_tab m)
        exact ⟨_, stands' b _ z⟩
      have stay : ∀ b o, b ∉ T → s.heap.get? b = some o → s'.heap.get? b = some o := by
        intro b o m e
        cases q : seed T own a vs ns b with
        | none => exact un.keep b o e q (fun z => absurd (show b ∈ ([] : List Addr) from z) (by simp)) (by simp)
        | some u =>
          rcases seed_case q with ⟨m', _⟩ | ⟨_, rfl, _, rfl⟩
          · exact absurd m' m
          · obtain ⟨e2, _⟩ := stands' b _ (un.frzs b _ _ q)
            rw [at_] at e
            cases e
            exact e2
      refine ⟨rfl, ⟨fun b o e => ?_, fun b o e => ?_⟩, os, bare⟩
      · by_cases m : b ∈ T
        · obtain ⟨t, mt, et⟩ := List.mem_map.mp m
          obtain ⟨more, z⟩ := grown b m
          have ob := Option.some.inj (e.symm.trans (blankT b m))
          have tab := (code t mt).tab (blank t mt)
          rw [show t.2 = b from et] at tab
          rw [ob]
          exact .inr (.inl ⟨tab.isCodeTable, rfl, #[], more, rfl, by rw [Array.empty_append]; exact z⟩)
        · exact .inl (stay b o m e)
      · by_cases m : b ∈ T
        · obtain ⟨more, z⟩ := grown b m
          exact ⟨_, z⟩
        · exact ⟨o, stay b o m e⟩
  cases old : K.lookup a with
  | some o =>
    have e := KX a o old
    rw [at_] at e
    cases e
    exact main false (fun z => nomatch z) (.inr ⟨_, vs.toArray, _, old, rfl, rfl, rfl, size, by simpa using vals⟩)
  | none => exact main true (fun _ => old) (.inl (.inr ⟨listObj vs, seed_own aT⟩))
theorem walkTG {l : PySem.W.OpenLaw} {n k : Nat} {q : Program} {loose : List Str} {XP : (Str → Option Value) → Heap → Prop} {YP : World → Heap → Prop} {d : DefRec} {CX : World → CXT} {x : Str}
    (hn : l.most = some n) (hn2 : n ≤ sizeLine) (hdf : d.params.defaults = []) (hr : Room k callerA)
    (F : ∀ (w : World) (mg : Str → Option Value) (fa : Addr) (h : Heap), YP w h → h.Ns mainGlobals mg → mg d.name = some (.ref fa) →
      ∃ (K : PySem.W.Frag) (fd : FuncData) (tf : List (Addr × Addr)) (sp : Sp), K.In h ∧ (∀ t ∈ tf, h.get? t.2 = some noTab) ∧ (∀ t ∈ tf, K.lookup t.2 = none) ∧ (∀ t ∈ tf, PySem.W.CodeHd h t.1 t.2) ∧ (∀ (s : Shared) (u : Value), BindsTo s fd ⟨[u], []⟩ [(x, u)]) ∧
        (∀ (H : Hp) (a : Addr) (ns : List Int), ns.length ≤ n → (∀ t ∈ tf, H t.2 = some (.tbl #[])) → SqL K H a (ns.map V.int) → sp [.ref a] H (fun v _ => v = .bl true) fun _ _ _ => False) ∧
        ∀ base : Heap, K.In base → base.Ns mainGlobals mg → (∀ t ∈ tf, LamX.TabB base mg t.1 t.2) → FnG l.prog w K mg base (CX w) k fa fd [x] sp)
    (no : ∀ (w : World) (H : Hp) (s : Shared) (e : Value) (s' : Shared), CX w [] H s (fun _ _ _ => False) e s' → False) :
    PySem.W.WalkO q loose XP YP l.row.toRowW d [] (fun f vs => PySem.call f vs) := by
  apply Att.attach_call hn hdf
  intro w s₀ s₁ mg mb fa o pm cd doc a vs ns G Y ho hd hcd hmg hobj hints hlen hg
  obtain ⟨K, fd, tf, sp, KX, blank, out, code, hb, hs, hF⟩ := F w mg fa _ Y G.T.g hmg
  exact lawTG KX G.T.g G.T.b G.T.builtins G.T.nolimit hg blank out code G.T.bmain hobj hints (Nat.le_trans hlen hn2) hr hF hb (fun H hH hS => hs H a ns hlen hH hS) fun H e s' => no w H s₁ e s'
/-- what the hook with tables tells is what the one without tells -/
theorem says_of {chk : PySem.W.Frag → Bool} {fn : List He.DefD} {ts : List TabN} {tf : List He.Defn} {w : World} {h : Heap} {K : PySem.W.Frag} (c : He.SaysX [] fn (ts.map fun t => ((fun K : PySem.W.Frag => He.ga K t.1), t.2)) tf chk w h K) : SaysRT chk fn ts w K := by
  have c1 := c.t
  have e1 : He.obsD [] fn K = He.valD fn := congrArg (fun z : He.AlT => z.1) c1
  have e2 := congrArg (fun z : He.AlT => z.2) c1
  have f1 : (fn.all fun d => d.ok K) = true := congrArg (fun z : He.AlD => z.1) e1
  have f2 : fn.map (fun d => He.fnW K d.at_) = fn.map He.DefD.val := congrArg (fun z : He.AlD => z.2) e1
  refine Prod.ext (Prod.ext ?_ f2) ?_
  · show (chk K && fn.all fun d => d.ok K) = true
    rw [c.more, f1]
    rfl
  · have e2' : (ts.map fun t => ((fun K : PySem.W.Frag => He.ga K t.1), t.2)).map (fun t => He.dicW K (t.1 K)) = (ts.map fun t => ((fun K : PySem.W.Frag => He.ga K t.1), t.2)).map fun t => some (He.keysIn w.params t.2) := e2
    rw [List.map_map, List.map_map] at e2'
    exact e2'
end L2.RV
set_option Elab.async false
set_option linter.all false
set_option maxRecDepth 100000
set_option maxHeartbeats 4000000
/-! The head, with the tables of the defs that make lambdas. -/
namespace L2.K32
open PySem PySem.Spec PyProof.Rows L2.RV
def tf : List He.Defn := [("_law_refused_right", none), ("_law_units_right", none), ("_law_row_right", none), ("_law_texts_right", none)]
def chkX (K : PySem.W.Frag) : Bool := chk K && decide ((tf.map fun p => (He.cT K p).2).Nodup)
def tabsX : List He.Tab := tabs.map fun t => ((fun K : PySem.W.Frag => He.ga K t.1), t.2)
abbrev hkX : PySem.W.Hook := He.hookX 5 [] fn tabsX tf chkX
def obX (s : PySem.W.SharedT) : He.AlX := He.obsX 5 [] fn tabsX tf chkX (HandSHeadRun.getT s)
theorem obX_eq (s : PySem.W.SharedT) : obX s = hkX.obs s.abs := He.obsX_eq (HandSHeadRun.getT_eq s)
set_option maxHeartbeats 0 in
theorem runX1 (b : Bool) (w : World) : HandSHeadRun.RunEq R (PySem.W.view R.prog [56]) hkX obX 9000 loose (fixW w "special-get-raises" b) := by
  intro os
  cases b <;> kernel_rfl
theorem runX (w : World) : HandSHeadRun.RunEq R (PySem.W.view R.prog [56]) hkX obX 9000 loose w := by
  rw [fixW_eq w "special-get-raises"]
  exact runX1 _ _
end L2.K32
set_option Elab.async false
set_option linter.all false
set_option maxRecDepth 100000
set_option maxHeartbeats 4000000
/-! Values of any kind: whether they are integers, texts. -/
namespace L2.RV
open PySem PySem.Spec PyProof.Rows
/-- a module's constant -/
theorem pe_globE {X : Cx} {x : Str} {v : V} {pos : Pos} (hg : Gl X x) (h : ∃ u, X.mg x = some u ∧ RelV v u) (hd : (x == ("__debug__" : Str)) = false := by decide) : PE X (.Name x pos) (tC v) := by
  obtain ⟨u, e, r⟩ := h
  exact pe_glob hg e r hd
/-- the value is of the built-in type n -/
def Knd (K : PySem.W.Frag) (H : Hp) (v : V) (n : String) : Prop := TyX K H v (.type n)
/-- the integer that v is; a truth value is none -/
def whole : V → Option Int
  | .int i => some i
  | _ => none
/-- what isinstance says of a value of some kind -/
structure Kinds (K : PySem.W.Frag) (H : Hp) (v : V) : Prop where
  ex : ∃ n, TyX K H v (.type n) ∧ kitB n "int" = some (match v with | .int _ => true | .bl _ => true | _ => false) ∧ kitB n "bool" = some (match v with | .bl _ => true | _ => false) ∧ kitB n "str" = some (match v with | .str _ => true | _ => false)
theorem kinds_non {K : PySem.W.Frag} {H : Hp} : Kinds K H .non := ⟨"NoneType", .base .non, (by decide +kernel : kitB "NoneType" "int" = some false), (by decide +kernel : kitB "NoneType" "bool" = some false), (by decide +kernel : kitB "NoneType" "str" = some false)⟩
theorem kinds_bl {K : PySem.W.Frag} {H : Hp} (b : Bool) : Kinds K H (.bl b) := ⟨"bool", .base (.bl b), (by decide +kernel : kitB "bool" "int" = some true), (by decide +kernel : kitB "bool" "bool" = some true), (by decide +kernel : kitB "bool" "str" = some false)⟩
theorem kinds_int {K : PySem.W.Frag} {H : Hp} (i : Int) : Kinds K H (.int i) := ⟨"int", .base (.int i), (by decide +kernel : kitB "int" "int" = some true), (by decide +kernel : kitB "int" "bool" = some false), (by decide +kernel : kitB "int" "str" = some false)⟩
theorem kinds_str {K : PySem.W.Frag} {H : Hp} (x : Str) : Kinds K H (.str x) := ⟨"str", .base (.str x), (by decide +kernel : kitB "str" "int" = some false), (by decide +kernel : kitB "str" "bool" = some false), (by decide +kernel : kitB "str" "str" = some true)⟩
theorem kinds_lst {K : PySem.W.Frag} {H : Hp} {a : Addr} {xs : List V} (h : H a = some (.lst xs)) : Kinds K H (.ref a) := ⟨"list", .base (.lst h), (by decide +kernel : kitB "list" "int" = some false), (by decide +kernel : kitB "list" "bool" = some false), (by decide +kernel : kitB "list" "str" = some false)⟩
theorem kinds_tup {K : PySem.W.Frag} {H : Hp} {a : Addr} {xs : List V} (h : H a = some (.tup xs)) : Kinds K H (.ref a) := ⟨"tuple", .base (.tup h), (by decide +kernel : kitB "tuple" "int" = some false), (by decide +kernel : kitB "tuple" "bool" = some false), (by decide +kernel : kitB "tuple" "str" = some false)⟩
theorem kinds_dct {K : PySem.W.Frag} {H : Hp} {a : Addr} {kvs : List (Key × V)} (h : H a = some (.dK kvs)) : Kinds K H (.ref a) := ⟨"dict", .base (.dK h), (by decide +kernel : kitB "dict" "int" = some false), (by decide +kernel : kitB "dict" "bool" = some false), (by decide +kernel : kitB "dict" "str" = some false)⟩
end L2.RV
set_option Elab.async false
set_option linter.all false
set_option maxRecDepth 100000
set_option maxHeartbeats 4000000
/-! Integers and numbers of units. -/
namespace L2.K32
open PySem PySem.Spec PyProof.Rows L2.RV
def isInt : V → Bool
  | .int _ => true
  | _ => false
/-- is_whole(value) -/
def spWhole (K : PySem.W.Frag) : Sp := fun vs H Q _ => ∃ v : V, vs = [v] ∧ Kinds K H v ∧ Q (.bl (isInt v)) H
def from_ (lo hi : Int) : V → Bool
  | .int i => decide (lo ≤ i) && decide (i ≤ hi)
  | _ => false
/-- is_whole_from(value, low, high) -/
def spFrom (K : PySem.W.Frag) : Sp := fun vs H Q _ => ∃ (v : V) (lo hi : Int), vs = [v, .int lo, .int hi] ∧ Kinds K H v ∧ Q (.bl (from_ lo hi v)) H
/-- is_number(word, at, value) -/
def spNumber (K : PySem.W.Frag) : Sp := fun vs H Q _ => ∃ (x : Str) (n : Int) (v : V), vs = [.str x, .int n, v] ∧ Kinds K H v ∧ Q (.bl (from_ (if x = "cell" ∧ n = 0 then 1 else 0) 99 v)) H
/-- a text without its sign -/
def digitsOf (x : Str) : Str := if Txt.startswith x "-" = true then cutS x (some 1) none else x
/-- is_whole_text(word) -/
def wholeText (x : Str) : Bool := if (!Txt.isascii (digitsOf x) || !Txt.isdigit (digitsOf x)) = true then false else decide (x = "0") || !Txt.startswith (digitsOf x) "0"
def spWText : Sp := fun vs H Q _ => ∃ x : Str, vs = [.str x] ∧ x.length ≤ sizeLine ∧ Q (.bl (wholeText x)) H
/-- whole_of(word), of fewer than sixty digits -/
def spWholeOf : Sp := fun vs H Q _ => ∃ (x : Str) (n : Int), vs = [.str x] ∧ x.length ≤ 100 ∧ (digitsOf x).length < 60 ∧ 0 < (digitsOf x).length ∧ PySem.intText? (digitsOf x) = some n ∧ Q (.int (if Txt.startswith x "-" = true then -n else n)) H
section
variable {P : Program} {w : World} {K : PySem.W.Frag} {mg : Str → Option Value} {base : Heap} {fd : FuncData}
theorem ok_is_whole (T : Top w K mg) (F : Fn K "is_whole" s_is_whole fd) : FnOk P w K mg base CX0 1 (He.ga K "is_whole") fd ["value"] (spWhole K) := by
  refine F.ok sc_is_whole (fun vs H Q E h => ?_) (fun cdv A outer s H vs Q E hr h => ?_)
  · obtain ⟨v, rfl, _⟩ := h
    rfl
  · obtain ⟨v, rfl, kd, k⟩ := h
    obtain ⟨n, ty, ki, kb, ks⟩ := kd.ex
    refine ⟨_, PSs.nox (pss_one (ps_ret (pe_and (pe_callB call_isi rfl T.n_isinstance (by decide +kernel) (pa_cons (pv 0) (pa_cons (pe_bltn (v := .ty "int") (u := .type "int") rfl T.n_int (by decide +kernel) rfl) pa_nil))) (pe_one (pe_not (pe_callB call_isi rfl T.n_isinstance (by decide +kernel) (pa_cons (pv 0) (pa_cons (pe_bltn (v := .ty "bool") (u := .type "bool") rfl T.n_bool (by decide +kernel) rfl) pa_nil)))))))), ?_⟩
    refine ⟨_, rfl, _, _, _, _, _, rfl, .ty "int", ty, kit_ty ki, _, rfl, ?_⟩
    cases v with
    | int i => exact ⟨_, rfl, _, _, _, _, _, rfl, .ty "bool", ty, kit_ty kb, _, rfl, k⟩
    | bl b => exact ⟨_, rfl, _, _, _, _, _, rfl, .ty "bool", ty, kit_ty kb, _, rfl, k⟩
    | _ => exact k
theorem ok_is_whole_from (T : Top w K mg) (D_is_whole : Def P w K mg base "is_whole" 1 ["value"] (spWhole K)) (F : Fn K "is_whole_from" s_is_whole_from fd) : FnOk P w K mg base CX0 2 (He.ga K "is_whole_from") fd ["value", "low", "high"] (spFrom K) := by
  refine F.ok sc_is_whole_from (fun vs H Q E h => ?_) (fun cdv A outer s H vs Q E hr h => ?_)
  · obtain ⟨v, lo, hi, rfl, _⟩ := h
    rfl
  · obtain ⟨v, lo, hi, rfl, kd, k⟩ := h
    refine ⟨_, PSs.nox (pss_one (ps_ret (pe_and (pe_callD D_is_whole (hr.mono (by decide)) rfl (pa_cons (pv 0) pa_nil)) (pe_one (pe_chain op_le op_le (pv 1) (pv 0) (pv 2) ))))), ?_⟩
    refine ⟨_, rfl, v, rfl, kd, _, rfl, ?_⟩
    cases v with
    | int i =>
      refine ⟨_, rfl, _, rfl, _, _, rfl, rfl, _, rfl, ?_⟩
      by_cases c : lo ≤ i
      · rw [decide_eq_true c]
        refine ⟨_, rfl, _, _, rfl, rfl, ?_⟩
        have e : from_ lo hi (.int i) = decide (i ≤ hi) := by
          show (decide (lo ≤ i) && decide (i ≤ hi)) = decide (i ≤ hi)
          rw [decide_eq_true c, Bool.true_and]
        rw [e] at k
        exact k
      · rw [decide_eq_false c]
        have e : from_ lo hi (.int i) = false := by
          show (decide (lo ≤ i) && decide (i ≤ hi)) = false
          rw [decide_eq_false c, Bool.false_and]
        rw [e] at k
        exact k
    | _ => exact k
theorem ok_is_number (T : Top w K mg) (D_is_whole_from : Def P w K mg base "is_whole_from" 2 ["value", "low", "high"] (spFrom K)) (F : Fn K "is_number" s_is_number fd) : FnOk P w K mg base CX0 3 (He.ga K "is_number") fd ["word", "at", "value"] (spNumber K) := by
  refine F.ok sc_is_number (fun vs H Q E h => ?_) (fun cdv A outer s H vs Q E hr h => ?_)
  · obtain ⟨x, n, v, rfl, _⟩ := h
    rfl
  · obtain ⟨x, n, v, rfl, kd, k⟩ := h
    have hu := hr.units
    refine ⟨_, PSs.nox (pss_cons (ps_set (i := 3) sc_is_number.nd rfl (by first | exact Or.inl rfl | exact Or.inr rfl) (pe_ifExp (PW.pt (pw_and (pt_cmpR (op_same hu) (pv 0) pe_str (nomark _)) (pw_and1 (pt_cmpR (op_same hu) (pv 1) pe_int (nomark _))))) pe_int pe_int))
      (pss_one (ps_ret (pe_callD D_is_whole_from (hr.mono (by decide)) rfl (pa_cons (pv 2) (pa_cons (pv 3) (pa_cons (pe_globE rfl T.i_MOST) pa_nil))))))), ?_⟩
    refine ⟨_, rfl, .inl ⟨rfl, _, rfl, ?_⟩⟩
    refine ite2 (fun c => ?_) (fun c => ?_)
    · have cx : x = "cell" := V.str.inj (of_decide_eq_true c)
      refine ⟨_, rfl, .inl ⟨rfl, _, rfl, ?_⟩⟩
      refine ite2 (fun c2 => ?_) (fun c2 => ?_)
      · have cn : n = 0 := V.int.inj (of_decide_eq_true c2)
        rw [if_pos ⟨cx, cn⟩] at k
        exact ⟨_, rfl, _, rfl, v, 1, 99, rfl, kd, k⟩
      · have cn : ¬ n = 0 := fun z => c2 (decide_eq_true (by rw [z]))
        rw [if_neg (fun z => cn z.2)] at k
        exact ⟨_, rfl, _, rfl, v, 0, 99, rfl, kd, k⟩
    · have cx : ¬ x = "cell" := fun z => c (decide_eq_true (by rw [z]))
      rw [if_neg (fun z => cx z.1)] at k
      exact ⟨_, rfl, _, rfl, v, 0, 99, rfl, kd, k⟩
def tStr0 (K : PySem.W.Frag) (f : Str → Bool) (to : TE) : TE := tBM0 K "str" (fun x xs H Q => ∃ a, x = .str a ∧ xs = [] ∧ True ∧ Q (.bl (f a)) H) to
def tWTail (K : PySem.W.Frag) : TS := tSeq (tIfS (tOr (tNot (tB (tStr0 K Txt.isascii (tVar 1)))) (tNot (tB (tStr0 K Txt.isdigit (tVar 1))))) (tRet (tC (.bl false))) tNext)
  (tRet (tOrV (tOp (rSame K) (tVar 0) (tC (.str "0"))) (tNotV (tBM K "str" (fun x xs H Q => ∃ a b, x = .str a ∧ xs = [.str b] ∧ Q (.bl (Txt.startswith a b)) H) (tVar 1) (tCons (tC (.str "0")) tNil)))))
theorem wtail_ok {x d : Str} {D : Ends} {H : Hp} (hd : digitsOf x = d) (k : D.rt (.bl (wholeText x)) H) : tWTail K D [some (.str x), some (.str d)] H := by
  unfold wholeText at k
  rw [hd] at k
  refine ⟨_, rfl, rfl, _, rfl, rfl, trivial, _, rfl, ?_⟩
  cases a : Txt.isascii d with
  | false =>
    rw [a] at k
    exact k
  | true =>
    rw [a] at k
    refine ⟨_, rfl, rfl, _, rfl, rfl, trivial, _, rfl, ?_⟩
    cases b : Txt.isdigit d with
    | false =>
      rw [b] at k
      exact k
    | true =>
      rw [b] at k
      refine ⟨_, rfl, .inl ⟨rfl, _, rfl, ?_⟩⟩
      by_cases z : x = "0"
      · have e : decide (V.str x = V.str "0") = true := decide_eq_true (by rw [z])
        refine (if_pos e).mpr ?_
        rw [decide_eq_true z] at k
        exact k
      · have e : ¬ decide (V.str x = V.str "0") = true := fun q => z (V.str.inj (of_decide_eq_true q))
        refine (if_neg e).mpr ?_
        rw [decide_eq_false z] at k
        exact ⟨_, rfl, rfl, _, _, rfl, rfl, _, rfl, k⟩
theorem ok_is_whole_text (T : Top w K mg) (F : Fn K "is_whole_text" s_is_whole_text fd) : FnOk P w K mg base CX0 1 (He.ga K "is_whole_text") fd ["word"] spWText := by
  refine F.ok sc_is_whole_text (fun vs H Q E h => ?_) (fun cdv A outer s H vs Q E hr h => ?_)
  · obtain ⟨x, rfl, _⟩ := h
    rfl
  · obtain ⟨x, rfl, hx, k⟩ := h
    have hu := hr.units
    refine ⟨_, PSs.nox (pss_cons (ps_set (i := 1) sc_is_whole_text.nd rfl (by first | exact Or.inl rfl | exact Or.inr rfl) (pe_ifExp (pt_val (pe_bm PySem.F.plainAttrs_str PySem.F.slot_str_startswith PySem.F.type_str_startswith mt_startswith (pv 0) (pa_cons pe_str pa_nil))) (pe_slice sl_str (pv 0) (po_some pe_int) po_none) (pv 0)))
      (pss_cons (ps_if (PW.pt (pw_or (pt_not (pt_val (pe_bm0 PySem.F.plainAttrs_str PySem.F.slot_str_isascii PySem.F.type_str_isascii mt_isascii (pv 1)))) (pw_or1 (pt_not (pt_val (pe_bm0 PySem.F.plainAttrs_str PySem.F.slot_str_isdigit PySem.F.type_str_isdigit mt_isdigit (pv 1))))))) (pss_one (ps_ret pe_bl)) pss_nil)
      (pss_one (ps_ret (pe_or (pe_cmpR (op_same hu) (pv 0) pe_str (nomark _)) (pe_one (pe_not (pe_bm PySem.F.plainAttrs_str PySem.F.slot_str_startswith PySem.F.type_str_startswith mt_startswith (pv 1) (pa_cons pe_str pa_nil))))))))), ?_⟩
    refine ⟨_, rfl, rfl, _, _, rfl, rfl, _, rfl, ?_⟩
    refine ite2 (fun c => ?_) (fun c => ?_)
    · refine ⟨_, rfl, _, rfl, x, rfl, hx, ?_⟩
      exact wtail_ok (K := K) (by unfold digitsOf; rw [if_pos c]) k
    · refine ⟨_, rfl, ?_⟩
      exact wtail_ok (K := K) (by unfold digitsOf; rw [if_neg c]) k
theorem cut_all (d : Str) : cutS d none (some (d.length : Int)) = d := by
  unfold cutS
  rw [HT.sIx_nat, HT.sIx_none, Nat.min_self, Nat.sub_zero, List.drop_zero, List.take_of_length_le (by rw [Array.length_toList]; exact Nat.le_refl _)]
theorem no_turns (n : Nat) (h : n < 60) : RgC (n : Int) (n : Int) 60 0 := by
  have all : ∀ n : Fin 60, RgC ((n.val : Nat) : Int) ((n.val : Nat) : Int) 60 0 := by
    unfold RgC
    decide +kernel
  exact all ⟨n, h⟩
def tStarts (K : PySem.W.Frag) (i : Nat) (z : Str) : TE := tBM K "str" (fun x xs H Q => ∃ a b, x = .str a ∧ xs = [.str b] ∧ Q (.bl (Txt.startswith a b)) H) (tVar i) (tCons (tC (.str z)) tNil)
def tDigits (K : PySem.W.Frag) : TE := tIf (tB (tStarts K 0 "-")) (tSl rSlS (tVar 0) (tPart (tC (.int 1))) tNoPart) (tVar 0)
theorem digits_ok {σ : L2.St} {H : Hp} {Q : VK} {x : Str} (v : σ[0]? = some (some (.str x))) (lx : x.length ≤ sizeLine) (k : Q (.str (digitsOf x)) H) : tDigits K σ H Q := by
  refine ⟨_, v, rfl, _, _, rfl, rfl, _, rfl, ?_⟩
  refine ite2 (fun c => ?_) (fun c => ?_)
  · refine ⟨_, v, _, rfl, x, rfl, lx, ?_⟩
    unfold digitsOf at k
    rw [if_pos c] at k
    exact k
  · refine ⟨_, v, ?_⟩
    unfold digitsOf at k
    rw [if_neg c] at k
    exact k
theorem set_of {te : TE} {i : Nat} {rest : TS} {D : Ends} {σ : L2.St} {H : Hp} (h : te σ H fun v H1 => rest D (σ.set i (some v)) H1) : tSeq (tAsg te (gName i)) rest D σ H := h
theorem seq_of {a b : TS} {D : Ends} {σ : L2.St} {H : Hp} (h : a { D with nx := b D } σ H) : tSeq a b D σ H := h
theorem ok_whole_of (T : Top w K mg) (F : Fn K "whole_of" s_whole_of fd) : FnOk P w K mg base CX0 1 (He.ga K "whole_of") fd ["word"] spWholeOf := by
  refine F.ok sc_whole_of (fun vs H Q E h => ?_) (fun cdv A outer s H vs Q E hr h => ?_)
  · obtain ⟨x, n, rfl, _⟩ := h
    rfl
  · obtain ⟨x, n, rfl, lx, ld, l0, hn, k⟩ := h
    have hu := hr.units
    refine ⟨_, PSs.nox (pss_cons (ps_set (i := 1) sc_whole_of.nd rfl (by first | exact Or.inl rfl | exact Or.inr rfl) (pe_ifExp (pt_val (pe_bm PySem.F.plainAttrs_str PySem.F.slot_str_startswith PySem.F.type_str_startswith mt_startswith (pv 0) (pa_cons pe_str pa_nil))) (pe_slice sl_str (pv 0) (po_some pe_int) po_none) (pv 0)))
      (pss_cons (ps_set (i := 2) sc_whole_of.nd rfl (by first | exact Or.inl rfl | exact Or.inr rfl) (pe_op op_mod (pe_callB call_len rfl T.n_len (by decide +kernel) (pa_cons (pv 1) pa_nil)) (pe_globE rfl T.i_PIECE)))
      (pss_cons (ps_set (i := 3) sc_whole_of.nd rfl (by first | exact Or.inl rfl | exact Or.inr rfl) (pe_ifExp (pt_cmpR op_gt (pv 2) pe_int (nomark _)) (pe_callTy call_int_str rfl T.n_int (by decide +kernel) (pa_cons (pe_slice sl_str (pv 1) po_none (po_some (pv 2))) pa_nil)) pe_int))
      (pss_cons (ps_for PassesOwn.never rfl (pi_range3 rfl T.n_range (pa_cons (pv 2) (pa_cons (pe_callB call_len rfl T.n_len (by decide +kernel) (pa_cons (pv 1) pa_nil)) (pa_cons (pe_globE rfl T.i_PIECE) pa_nil)))) (pg_name (i := 4) sc_whole_of.nd rfl (by first | exact Or.inl rfl | exact Or.inr rfl)) (pss_one (ps_set (i := 3) sc_whole_of.nd rfl (by first | exact Or.inl rfl | exact Or.inr rfl) (pe_op op_plus (pe_op op_times (pv 3) (pe_op op_pow pe_int pe_int)) (pe_callTy call_int_str rfl T.n_int (by decide +kernel) (pa_cons (pe_slice sl_str (pv 1) (po_some (pv 4)) (po_some (pe_op op_plus (pv 4) (pe_globE rfl T.i_PIECE)))) pa_nil))))))
      (pss_one (ps_ret (pe_ifExp (pt_val (pe_bm PySem.F.plainAttrs_str PySem.F.slot_str_startswith PySem.F.type_str_startswith mt_startswith (pv 0) (pa_cons pe_str pa_nil))) (pe_un un_neg (pv 3)) (pv 3)))))))), ?_⟩
    refine set_of (digits_ok rfl (Nat.le_trans lx (by decide)) ?_)
    generalize digitsOf x = d at ld l0 hn ⊢
    have md : ((d.length : Nat) : Int) % 60 = (d.length : Int) := Int.emod_eq_of_lt (by omega) (by omega)
    have big : d.length ≤ sizeLine := by rw [sizeLine_eq]; omega
    refine ⟨_, rfl, _, _, rfl, ⟨big, rfl⟩, _, _, rfl, rfl, (by decide : (0 : Int) < 60), ?_⟩
    refine ⟨_, rfl, _, _, rfl, rfl, _, rfl, ?_⟩
    rw [md]
    refine (if_pos (decide_eq_true (by omega : (0 : Int) < (d.length : Int)))).mpr ?_
    refine ⟨_, rfl, _, rfl, _, rfl, d, rfl, big, cutS d none (some (d.length : Int)), n, ?_, by rw [cut_all]; exact hn, by rw [cut_all]; omega, ?_⟩
    · show [V.str (cutS d none (some (((d.length : Nat) : Int) % 60)))] = _
      rw [md]
    refine ⟨_, rfl, _, rfl, _, _, rfl, ⟨big, rfl⟩, _, _, _, 0, rfl, ?_, ?_⟩
    · rw [md]
      exact no_turns d.length ld
    refine for_rangeC (fun _ σ' H' => σ' = [some (.str x), some (.str d), some (.int (((d.length : Nat) : Int) % 60)), some (.int n), none] ∧ H' = H) ⟨rfl, rfl⟩ (fun i _ _ hi _ => absurd hi (Nat.not_lt_zero i)) (fun σ' H' y => ?_)
    obtain ⟨rfl, rfl⟩ := y
    refine ⟨_, rfl, rfl, _, _, rfl, rfl, _, rfl, ?_⟩
    refine ite2 (fun c => ?_) (fun c => ?_)
    · rw [if_pos c] at k
      exact ⟨_, rfl, _, rfl, k⟩
    · rw [if_neg c] at k
      exact ⟨_, rfl, k⟩
end
end L2.K32
set_option Elab.async false
set_option linter.all false
set_option maxRecDepth 100000
set_option maxHeartbeats 4000000
/-! a, *b = a list. -/
namespace L2.RV
open PySem PySem.Spec PyProof.Rows
section
variable {prog : Program} {w : World} {A : Around} {E : Value → Shared → Prop} {s : Shared}
theorem walk_list {it l : Addr} {items : Array Value} {i0 : Nat} (hh : A.handled = none) (hne : l ≠ it) (hi : i0 ≤ items.size) :
    WalksS prog w A it [it, l] [it] (fun a b => b = a) (items.size - i0) (fun i v => items[i0 + i]? = some v) (fun i s => s.heap.IsListIter it l (i0 + i) ∧ s.heap.IsList l items) where
  sub := by simp
  grefl := fun _ => rfl
  gtrans := fun a b c h1 h2 => h2.trans h1
  frame := fun i s h' tk st _ k => ⟨st.1.at (k it (by simp)), by
    obtain ⟨o, e, r⟩ := st.2
    exact ⟨o, k l (by simp) _ e, r⟩⟩
  item := fun i s Q E hi2 st hQ => by
    have lt : i0 + i < items.size := by omega
    refine wpAny_pyNext_list_item st.1 st.2 (x := items[i0 + i]) (by simp [lt]) fun h' hit hs => ?_
    exact hQ _ _ (by simp [lt]) ⟨by rw [← Nat.add_assoc]; exact hit, st.2.extBut hs.extBut hne⟩ ⟨fun b o hb e => hs.extBut b o (by simpa using hb) e, rfl, rfl, rfl, Nat.le_refl _⟩
  done := fun s Q E st hQ => by
    refine wpAny_pyNext_list_end hh st.1 st.2 (by simp; omega) fun h' hs => ?_
    exact hQ _ ⟨fun b o hb e => hs b o (by simpa using hb) e, rfl, rfl, rfl, Nat.le_refl _⟩
  self := fun i s Q E st q => wpAny_pyIter_listiter st.1 q
theorem unpack_star {l : Addr} {items : Array Value} {Q : List Value → Shared → Prop} (hh : A.handled = none) (hl : s.heap.IsList l items) (h1 : 1 ≤ items.size) (hz : items.size ≤ sizeLine)
    (hQ : ∀ (x : Value) (xs : List Value) (h' : Heap) (t' : Nat), items.toList = x :: xs → (∀ b o, s.heap.get? b = some o → h'.get? b = some o) → Q [x, .ref h'.objs.size] { s with heap := h'.push { cls := .type "list", data := .seq xs.toArray }, toks := t' }) :
    wpAny (model prog w) A (unpackItems (.ref l) 2 (some 1)) Q E s := by
  have hlt : l ≠ s.heap.objs.size := by obtain ⟨o, ho, _⟩ := hl; exact Nat.ne_of_lt (Heap.lt_size ho)
  obtain ⟨x, xs, hx⟩ : ∃ x xs, items.toList = x :: xs := by
    cases e : items.toList with
    | nil =>
      rw [← Array.length_toList, e] at h1
      exact absurd h1 (by decide)
    | cons x xs => exact ⟨x, xs, rfl⟩
  have hn : items.size = xs.length + 1 := by rw [← Array.length_toList, hx]; rfl
  unfold unpackItems
  refine wpAny_bind ?_
  unfold notIterableAtAll
  refine wpAny_bind (wpAny_specialOf hl.typeIs F.slot_list_iter.lookup ?_)
  refine wpAny_pure ?_
  simp only [Bool.false_eq_true, if_false]
  refine wpAny_bind (wpAny_holding (wpAny_pyIter_list hl ?_))
  refine wpAny_bind (wpAny_holding (PySem.W.kun_draw hlt 1 0 _ _ ⟨_, Heap.get?_push_size _ rfl, rfl, rfl⟩ (hl.push _) (by omega) fun h₁ hit₁ hs₁ => ?_))
  have first : List.take 1 (List.drop 0 items.toList) = [x] := by rw [List.drop_zero, hx]; rfl
  rw [first]
  rw [if_neg (by simp)]
  have hl₁ : h₁.IsList l items := (hl.push _).extBut hs₁.extBut hlt
  have W := walk_list (prog := prog) (w := w) (A := A.in1) (i0 := 1) (items := items) (l := l) (it := s.heap.objs.size) hh hlt h1
  obtain ⟨oI, eI, rI⟩ := id hit₁
  obtain ⟨oL, eL, rL⟩ := id hl₁
  refine wpAny_bind (wpAny_holding (wpAny_collect_iter (.inr (.inr (.inl rfl))) W (fun i s st => st.1.typeIs) ⟨hit₁, hl₁⟩ (fun b hb => ?_) (by simp) (fun s' acc mv io => ?_) (by omega)))
  · rcases List.mem_cons.mp hb with z | z
    · rw [z]
      exact Heap.lt_size eI
    · rw [List.mem_singleton] at z
      rw [z]
      exact Heap.lt_size eL
  · have same : acc.toList = xs := by
      apply List.ext_getElem?
      intro j
      have at_ : items[1 + j]? = xs[j]? := by
        rw [← Array.getElem?_toList, hx, Nat.add_comm]
        rfl
      by_cases c : j < acc.size
      · have e : acc[j]? = some acc[j] := by simp [c]
        have z : items[1 + j]? = some acc[j] := io.2 j _ e
        rw [at_] at z
        rw [Array.getElem?_toList, e, z]
      · have len := io.1
        rw [List.getElem?_eq_none (by rw [Array.length_toList]; omega), List.getElem?_eq_none (by omega)]
    rw [same, if_neg (by omega)]
    have t1 : List.take (xs.length - (2 - 1 - 1)) xs = xs := List.take_of_length_le (by omega)
    have t2 : List.drop (xs.length - (2 - 1 - 1)) xs = [] := List.drop_of_length_le (by omega)
    rw [t1, t2]
    refine wpAny_bind (wpAny_newList ?_ (by omega))
    refine wpAny_pure ?_
    obtain ⟨hp, g, d, tk, os⟩ := s'
    obtain ⟨m1, m2, m3, m4, m5⟩ := mv
    dsimp only at m1 m2 m3 m4 m5
    subst m2 m3 m4
    refine hQ x xs hp tk hx fun b o e => ?_
    have lt : b < s.heap.objs.size := Heap.lt_size e
    have ne : b ≠ s.heap.objs.size := Nat.ne_of_lt lt
    exact m1 b o (by simpa using ne) (hs₁.extBut b o ne (Heap.get?_push_of_some _ e))
end
/-- (a, *b) = a list that is not empty -/
def gStar (K : PySem.W.Frag) (t : TGs) : TG := fun v σ H Q => ∃ a x xs, v = .ref a ∧ SqL K H a (x :: xs) ∧ ∀ q, H q = none → q ≠ sysModules → t [x, .ref q] σ (upd H q (.lst xs)) Q
theorem pg_star {X : Cx} {e e' : Expr} {k : Nat} {pos p : Pos} {t : TGs} (hc : X.calm = true) (h : PGs X [e, e'] t)
    (hn : (assignEach [e, .Starred e' p] X.env).length = 2 := by rfl) (hst : (assignEach [e, .Starred e' p] X.env).findIdx? (·.1) = some 1 := by rfl)
    (hs : (assignEach [e, .Starred e' p] X.env).map (·.2) = (assignEach [e, e'] X.env).map (·.2) := by rfl) : PG X (.Tuple [e, .Starred e' p] k pos) (gStar X.K t) := by
  refine ⟨fun pins s σ H v u Q I r hw => ?_⟩
  obtain ⟨a, x, xs, e1, hq, hw⟩ := hw
  subst e1
  cases r
  obtain ⟨its, rv, pl, hz⟩ := I.list hq
  have hl' : s.heap.IsList a its.toArray := by
    obtain ⟨o, m, e, c, d, q⟩ := pl
    exact ⟨o, e, c, m, q⟩
  have len := rv.length
  rw [PyProof.Rows.assign_Tuple]
  refine wpAny_bind (wpAny_standAt ?_)
  unfold unpack
  rw [hn, hst, hs]
  refine wpAny_bind (wpAny_holding (unpack_star (I.ok.hd hc) hl' (by rw [List.size_toArray, ← len]; exact Nat.succ_le_succ (Nat.zero_le _)) (by rw [List.size_toArray, ← len]; exact hz) fun y ys h' t' hy keep => ?_))
  have J : Inv X pins σ H { s with heap := h', toks := t' } := I.kept keep
  have hy' : its = y :: ys := hy
  subst hy'
  cases rv with
  | cons r0 rs =>
    have fresh : H h'.objs.size = none := J.hok.fresh (Nat.le_refl _)
    have J2 := J.laid (a := h'.objs.size) (o := .lst xs) (t' := t') (h' := h'.push { cls := .type "list", data := .seq ys.toArray }) (fun b u e => Heap.get?_push_of_some _ e) (Nat.le_refl _) ⟨by
      have hz' : xs.length + 1 ≤ sizeLine := hz
      omega, ys, 0, rs, Heap.get?_push_size _ rfl⟩
    exact h.run pins _ σ _ [x, .ref h'.objs.size] _ Q J2 (.cons r0 (.cons rfl .nil)) (hw _ fresh (Nat.ne_of_gt J.big))
end L2.RV
set_option Elab.async false
set_option linter.all false
set_option maxRecDepth 100000
set_option maxHeartbeats 4000000
/-! Which values are units. -/
namespace L2.K32
open PySem PySem.Spec PyProof.Rows L2.RV
def units6 : List Str := ["journal", "block", "page", "cell", "bucket", "parity"]
def isWord (x : Str) : Bool := units6.any fun y => y == x
def numOf (x : Str) : Int := if x = "journal" then 0 else if x = "cell" ∨ x = "parity" then 2 else 1
def wholeNum (t : Str) : Int := if Txt.startswith t "-" = true then -((NumText.digitsVal (digitsOf t).cps.toList : Nat) : Int) else ((NumText.digitsVal (digitsOf t).cps.toList : Nat) : Int)
def numB (x : Str) (i : Nat) (t : Str) : Bool := from_ (if x = "cell" ∧ (i : Int) = 0 then 1 else 0) 99 (.int (wholeNum t))
/-- a text's words as a unit -/
def unitW (x : Str) (ts : List Str) : Bool := if isWord x = true then (if decide ((ts.length : Int) = numOf x) = true then (if ts.all wholeText = true then (ts.zipIdx.all fun p => numB x p.2 p.1) else false) else false) else false
def unitL : List Str → Bool
  | [] => false
  | x :: ts => unitW x ts
/-- is_unit(value) -/
def unitV : V → Bool
  | .str x => unitL (Txt.split x " ")
  | _ => false
def spUnit (K : PySem.W.Frag) : Sp := fun vs H Q _ => ∃ v : V, vs = [v] ∧ Kinds K H v ∧ (∀ x, v = .str x → x.length ≤ 50) ∧ ∀ H', Same H H' → Q (.bl (unitV v)) H'
theorem split_some (x : Str) : ∃ y ts, Txt.split x " " = y :: ts := by
  cases e : Txt.split x " " with
  | cons y ts => exact ⟨y, ts, rfl⟩
  | nil =>
    have j := StrLaws.join_split x " "
    rw [e] at j
    have j' : x = Str.empty := j.symm
    rw [j'] at e
    have z : Txt.split Str.empty " " = [Str.empty] := by decide +kernel
    rw [z] at e
    cases e
theorem split_short {x t : Str} (h : t ∈ Txt.split x " ") : t.length ≤ x.length := by
  have j := StrLaws.join_split x " "
  have z := join_mem_le " " _ _ h
  rw [j] at z
  exact z
theorem cut_le (d : Str) (lo hi : Option Int) : (cutS d lo hi).length ≤ d.length := by
  show ((d.cps.toList.drop _).take _).toArray.size ≤ d.cps.size
  rw [List.size_toArray, List.length_take, List.length_drop, Array.length_toList]
  omega
theorem digitsOf_le (t : Str) : (digitsOf t).length ≤ t.length := by
  unfold digitsOf
  split
  · exact cut_le _ _ _
  · exact Nat.le_refl _
theorem digit_code : ∀ c : Fin 128, Unicode.isDigit c.val = true → 48 ≤ c.val ∧ c.val ≤ 57 := by decide +kernel
theorem whole_digits {t : Str} (h : wholeText t = true) (l : t.length ≤ 50) : PySem.intText? (digitsOf t) = some ((NumText.digitsVal (digitsOf t).cps.toList : Nat) : Int) ∧ 0 < (digitsOf t).length ∧ (digitsOf t).length < 60 := by
  unfold wholeText at h
  have le := digitsOf_le t
  generalize digitsOf t = d at h le ⊢
  cases a : Txt.isascii d with
  | false =>
    rw [a] at h
    cases h
  | true =>
    cases b : Txt.isdigit d with
    | false =>
      rw [a, b] at h
      cases h
    | true =>
      obtain ⟨b1, b2⟩ := Bool.and_eq_true_iff.mp (show (decide (d.length > 0) && d.cps.all Unicode.isDigit) = true from b)
      have pos : 0 < d.length := of_decide_eq_true b1
      have a' : d.cps.all (fun c => decide (c < 128)) = true := a
      have all : ∀ c ∈ d.cps.toList, 48 ≤ c ∧ c ≤ 57 := fun c hc => by
        have hc' : c ∈ d.cps := Array.mem_def.mpr hc
        have lt : c < 128 := of_decide_eq_true (Array.all_eq_true'.mp a' c hc')
        exact digit_code ⟨c, lt⟩ (Array.all_eq_true'.mp b2 c hc')
      refine ⟨?_, pos, by omega⟩
      refine intText_digits ?_ (fun z => ?_) (by omega)
      · exact all
      · have : d.cps.toList.length = d.length := Array.length_toList
        rw [z] at this
        have e : (0 : Nat) = d.length := this
        omega
section
variable {P : Program} {w : World} {K : PySem.W.Frag} {mg : Str → Option Value} {base : Heap} {fd : FuncData}
theorem numbers_at {y : Str} (T : Top w K mg) (hb : isWord y = true) : KDct K w (He.ga K "NUMBERS") y (.int (numOf y)) := by
  obtain ⟨es, n, D⟩ := T.d_NUMBERS
  have at_ : ∀ q, q ∈ ([("journal", .int 0), ("block", .int 1), ("page", .int 1), ("cell", .int 2), ("bucket", .int 1), ("parity", .int 2)] : List (Str × He.Dv)) → y = q.1 → He.Dv.v K q.2 = .int (numOf y) → KDct K w (He.ga K "NUMBERS") y (.int (numOf y)) := fun q hq e ev => by
    obtain ⟨u, hu, ru⟩ := T.v_NUMBERS q hq
    rw [← e] at hu
    rw [ev] at ru
    exact ⟨es, n, u, D.at_, D.lit, hu, ru⟩
  obtain ⟨z, hz, e⟩ := List.any_eq_true.mp hb
  have e' : z = y := LawfulBEq.eq_of_beq e
  subst e'
  unfold units6 at hz
  simp only [List.mem_cons, List.not_mem_nil, or_false] at hz
  rcases hz with rfl | rfl | rfl | rfl | rfl | rfl
  · exact at_ ("journal", .int 0) (by simp) rfl rfl
  · exact at_ ("block", .int 1) (by simp) rfl rfl
  · exact at_ ("page", .int 1) (by simp) rfl rfl
  · exact at_ ("cell", .int 2) (by simp) rfl rfl
  · exact at_ ("bucket", .int 1) (by simp) rfl rfl
  · exact at_ ("parity", .int 2) (by simp) rfl rfl
theorem same_updN {H H' : Hp} {D : Addr} {o : HO} (s : Same H H') (n : H D = none) : Same H (upd H' D o) := fun b u z => by
  rw [upd_ne (ne_of_none z n)]
  exact s _ _ z
/-- all([is_whole_text(text) for text in texts]) -/
theorem allW_ok {σ : L2.St} {H : Hp} {Q : VK} {q : Addr} {ts : List Str} (v2 : σ[2]? = some (some (.ref q))) (l3 : 3 < σ.length) (h2 : H q = some (.lst (ts.map V.str))) (few : ts.length ≤ 60) (short : ∀ t, t ∈ ts → t.length ≤ 60) (k : ∀ H', Same H H' → Q (.bl (ts.all wholeText)) H') :
    tCB (rAll K) (tCons (tLc (iList K (tVar 2)) (gName 3) tYes (tCall spWText [] E0 (tCons (tVar 3) tNil)) [3]) tNil) σ H Q := by
  refine ⟨_, v2, q, rfl, ⟨_, SqL.of h2⟩, fun D nD => ?_⟩
  refine lc_list (xs := ts.map V.str) (fun n H' => Same H H' ∧ H' D = some (.lst (((ts.take n).map wholeText).map V.bl))) ⟨same_new nD, upd_same⟩ (fun n H' _ p => SqL.of (p.1 _ _ h2)) (fun n x H' hx p => ?_) (fun H' p => ?_)
  · rw [List.getElem?_map] at hx
    obtain ⟨t, ht, rfl⟩ := Option.map_eq_some_iff.mp hx
    have lt : n < ts.length := by
      rcases Nat.lt_or_ge n ts.length with z | z
      · exact z
      · rw [List.getElem?_eq_none z] at ht
        cases ht
    have mem : t ∈ ts := List.mem_of_getElem? ht
    refine ⟨by simp only [wipe, List.set_set], ?_⟩
    simp only [tYes, ↓reduceIte]
    refine ⟨_, List.getElem?_set_self (by simp only [wipe, List.length_set]; exact l3), t, rfl, Nat.le_trans (short t mem) (by decide), _, p.2, ?_, same_updN p.1 nD, ?_⟩
    · rw [List.length_map, List.length_map, List.length_take, sizeLine_eq]
      omega
    · rw [upd_same]
      have e : ts.take (n + 1) = ts.take n ++ [t] := by
        rw [List.getElem?_eq_getElem lt] at ht
        cases ht
        exact (List.take_append_getElem lt).symm
      rw [e, List.map_append, List.map_append]
      rfl
  · rw [List.length_map, List.take_length] at p
    refine ⟨D, ts.map wholeText, rfl, SqL.of p.2, ?_⟩
    have e : (ts.map wholeText).all id = ts.all wholeText := by rw [List.all_map]; rfl
    rw [e]
    exact k _ p.1
theorem wipe2 {σ : L2.St} {j j' : Nat} {a b : Option V} (nj : j ≠ j') : wipe (((wipe σ [j, j']).set j a).set j' b) [j, j'] = wipe σ [j, j'] := by
  simp only [wipe]
  rw [List.set_set, List.set_set, List.set_comm _ _ (Ne.symm nj), List.set_set]
  rw [List.set_comm none none nj, List.set_set]
/-- all([is_number(word, at, whole_of(text)) for at, text in enumerate(texts)]) -/
theorem allN_ok {σ : L2.St} {H : Hp} {Q : VK} {q : Addr} {y : Str} {ts : List Str} (v1 : σ[1]? = some (some (.str y))) (v2 : σ[2]? = some (some (.ref q))) (l4 : 4 < σ.length) (h2 : H q = some (.lst (ts.map V.str))) (few : ts.length ≤ 60) (short : ∀ t, t ∈ ts → t.length ≤ 50)
    (good : ts.all wholeText = true) (k : ∀ H', Same H H' → Q (.bl (ts.zipIdx.all fun p => numB y p.2 p.1)) H') :
    tCB (rAll K) (tCons (tLc (iEnum K (tCons (tVar 2) tNil)) (gTup K 2 (gCons (gName 4) (gCons (gName 3) gNil))) tYes (tCall (spNumber K) [] E0 (tCons (tVar 1) (tCons (tVar 4) (tCons (tCall spWholeOf [] E0 (tCons (tVar 3) tNil)) tNil)))) [4, 3]) tNil) σ H Q := by
  refine ⟨_, v2, q, _, rfl, SqL.of h2, fun D nD => ?_⟩
  refine lc_it (walk_enum (xs := ts.map V.str)) (fun n H' => Same H H' ∧ H' D = some (.lst (((ts.zipIdx.take n).map fun p => numB y p.2 p.1).map V.bl))) ⟨same_new nD, upd_same⟩ (fun n H' _ p => SqL.of (p.1 _ _ h2)) (fun n x H' H'' hn p yy => ?_) (fun H' p => ?_)
  · obtain ⟨T, x1, x2, rfl, nT, rfl, e1, e2⟩ := yy
    cases e1
    rw [List.length_map] at hn
    have e3 : (ts.map V.str)[n]? = some x2 := e2
    rw [List.getElem?_map, List.getElem?_eq_getElem hn] at e3
    cases e3
    have mem : ts[n] ∈ ts := List.getElem_mem hn
    obtain ⟨w1, w2, w3⟩ := whole_digits (List.all_eq_true.mp good _ mem) (short _ mem)
    have sT := same_new (o := .tup [.int ((n : Nat) : Int), .str ts[n]]) nT
    refine ⟨T, _, rfl, SqT.of upd_same, rfl, _, _, rfl, _, _, rfl, rfl, wipe2 (by decide), ?_⟩
    simp only [tYes, ↓reduceIte]
    have g1 : (((wipe σ [4, 3]).set 4 (some (.int ((n : Nat) : Int)))).set 3 (some (.str ts[n])))[1]? = some (some (.str y)) := by
      simp only [wipe]
      rw [List.getElem?_set_ne (by decide), List.getElem?_set_ne (by decide), List.getElem?_set_ne (by decide), List.getElem?_set_ne (by decide)]
      exact v1
    have g4 : (((wipe σ [4, 3]).set 4 (some (.int ((n : Nat) : Int)))).set 3 (some (.str ts[n])))[4]? = some (some (.int ((n : Nat) : Int))) := by
      rw [List.getElem?_set_ne (by decide)]
      exact List.getElem?_set_self (by simp only [wipe, List.length_set]; exact l4)
    have g3 : (((wipe σ [4, 3]).set 4 (some (.int ((n : Nat) : Int)))).set 3 (some (.str ts[n])))[3]? = some (some (.str ts[n])) :=
      List.getElem?_set_self (by simp only [wipe, List.length_set]; omega)
    have sh := short _ mem
    refine ⟨_, g1, _, g4, _, g3, ts[n], _, rfl, by omega, w3, w2, w1, y, _, _, rfl, kinds_int _, _, sT _ _ p.2, ?_, same_updN (p.1.trans sT) nD, ?_⟩
    · rw [List.length_map, List.length_map, List.length_take, sizeLine_eq]
      omega
    · rw [upd_same]
      have lz : n < ts.zipIdx.length := by rw [List.length_zipIdx]; exact hn
      have e : ts.zipIdx.take (n + 1) = ts.zipIdx.take n ++ [(ts[n], n)] := by
        rw [← List.take_append_getElem lz, List.getElem_zipIdx, Nat.zero_add]
      rw [e, List.map_append, List.map_append]
      rfl
  · rw [List.length_map] at p
    have full : ts.zipIdx.take ts.length = ts.zipIdx := List.take_of_length_le (by rw [List.length_zipIdx]; exact Nat.le_refl _)
    rw [full] at p
    refine ⟨D, ts.zipIdx.map fun p => numB y p.2 p.1, rfl, SqL.of p.2, ?_⟩
    have e : (ts.zipIdx.map fun p => numB y p.2 p.1).all id = ts.zipIdx.all fun p => numB y p.2 p.1 := by rw [List.all_map]; rfl
    rw [e]
    exact k _ p.1
theorem ok_is_unit (T : Top w K mg) (D_is_whole_text : Def P w K mg base "is_whole_text" 1 ["word"] spWText) (D_whole_of : Def P w K mg base "whole_of" 1 ["word"] spWholeOf) (D_is_number : Def P w K mg base "is_number" 3 ["word", "at", "value"] (spNumber K)) (F : Fn K "is_unit" s_is_unit fd) : FnOk P w K mg base CX0 4 (He.ga K "is_unit") fd ["value"] (spUnit K) := by
  refine F.ok sc_is_unit (fun vs H Q E h => ?_) (fun cdv A outer s H vs Q E hr h => ?_)
  · obtain ⟨v, rfl, _⟩ := h
    rfl
  · obtain ⟨v, rfl, kd, few, k⟩ := h
    have hu := hr.units
    refine ⟨_, PSs.nox (pss_cons (ps_if (pt_not (pt_val (pe_callB call_isi rfl T.n_isinstance (by decide +kernel) (pa_cons (pv 0) (pa_cons (pe_bltn (v := .ty "str") (u := .type "str") rfl T.n_str (by decide +kernel) rfl) pa_nil))))) (pss_one (ps_ret pe_bl)) pss_nil)
      (pss_cons (ps_asg (pe_bm PySem.F.plainAttrs_str PySem.F.slot_str_split PySem.F.type_str_split mt_split (pv 0) (pa_cons pe_str pa_nil)) (pg_star rfl (pgs_cons (pg_name (i := 1) sc_is_unit.nd rfl (by first | exact Or.inl rfl | exact Or.inr rfl)) (pgs_cons (pg_name (i := 2) sc_is_unit.nd rfl (by first | exact Or.inl rfl | exact Or.inr rfl)) pgs_nil))))
      (pss_cons (ps_if (PW.pt (pw_or (pt_cmpR op_notIn_seq (pv 1) (pe_glob (v := .ref (He.ga K "UNIT_WORDS")) rfl T.g_UNIT_WORDS rfl) rfl) (pw_or1 (pt_cmpR (op_diff hu) (pe_callB call_len rfl T.n_len (by decide +kernel) (pa_cons (pv 2) pa_nil)) (pe_ix ix_kdict (pe_glob (v := .ref (He.ga K "NUMBERS")) rfl T.g_NUMBERS rfl) (pv 1) (fun _ _ => rfl)) (nomark _))))) (pss_one (ps_ret pe_bl)) pss_nil)
      (pss_cons (ps_if (pt_not (pt_val (pe_callB (cr_all rfl) rfl T.n_all (by decide +kernel) (pa_cons (pe_lc (own := [("text", 3)]) (g := gName 3) (te := tCall spWText [] E0 (tCons (tVar 3) tNil)) (tt := tYes) (by rfl) sc_is_unit.nd (pi_list (pv 2)) (blkOk_by (own := [("text", 3)]) (N := ["value", "word", "texts", "text", "at"]) (sc := defScope s_is_unit) (by decide +kernel)) (fun _ _ _ _ _ => by exact (pg_name (i := 3) sc_is_unit.nd rfl (by first | exact Or.inl rfl | exact Or.inr rfl))) (fun _ _ _ _ _ => by exact pts_nil) (fun _ _ _ _ _ => by exact (pe_callD D_is_whole_text (hr.mono (by decide)) rfl (pa_cons (pv 3) pa_nil)))) pa_nil)))) (pss_one (ps_ret pe_bl)) pss_nil)
      (pss_one (ps_ret (pe_callB (cr_all rfl) rfl T.n_all (by decide +kernel) (pa_cons (pe_lc (own := [("at", 4), ("text", 3)]) (g := gTup K 2 (gCons (gName 4) (gCons (gName 3) gNil))) (te := tCall (spNumber K) [] E0 (tCons (tVar 1) (tCons (tVar 4) (tCons (tCall spWholeOf [] E0 (tCons (tVar 3) tNil)) tNil)))) (tt := tYes) (by rfl) sc_is_unit.nd (pi_enum rfl T.n_enumerate (pa_cons (pv 2) pa_nil)) (blkOk_by (own := [("at", 4), ("text", 3)]) (N := ["value", "word", "texts", "text", "at"]) (sc := defScope s_is_unit) (by decide +kernel)) (fun _ _ _ _ _ => by exact (pg_tup rfl (pgs_cons (pg_name (i := 4) sc_is_unit.nd rfl (by first | exact Or.inl rfl | exact Or.inr rfl)) (pgs_cons (pg_name (i := 3) sc_is_unit.nd rfl (by first | exact Or.inl rfl | exact Or.inr rfl)) pgs_nil)))) (fun _ _ _ _ _ => by exact pts_nil) (fun _ _ _ _ _ => by exact (pe_callD D_is_number (hr.mono (by decide)) rfl (pa_cons (pv 1) (pa_cons (pv 4) (pa_cons (pe_callD D_whole_of (hr.mono (by decide)) rfl (pa_cons (pv 3) pa_nil)) pa_nil)))))) pa_nil)))))))), ?_⟩
    obtain ⟨n, ty, ki, kb, ks⟩ := kd.ex
    refine ⟨_, rfl, _, _, _, _, _, rfl, .ty "str", ty, kit_ty ks, _, rfl, ?_⟩
    cases v with
    | str x =>
      have lx := few x rfl
      obtain ⟨y, ts, sp⟩ := split_some x
      refine ⟨_, rfl, rfl, _, _, rfl, rfl, by decide +kernel, by rw [sizeLine_eq]; omega, fun q nq => ?_⟩
      rw [sp]
      have s1 := same_new (o := .lst ((y :: ts).map V.str)) nq
      refine ⟨q, .str y, ts.map V.str, rfl, SqL.of upd_same, fun q2 n2 m2 => ?_⟩
      have s2 := same_new (o := .lst (ts.map V.str)) n2
      have h2 : upd (upd H q (.lst ((y :: ts).map V.str))) q2 (.lst (ts.map V.str)) q2 = some (.lst (ts.map V.str)) := upd_same
      have s12 := s1.trans s2
      generalize upd (upd H q (.lst ((y :: ts).map V.str))) q2 (.lst (ts.map V.str)) = H2 at h2 s12 ⊢
      refine ⟨_, _, rfl, _, _, rfl, rfl, ?_⟩
      have k' := k H2 s12
      have k2 : Q (.bl (unitW y ts)) H2 := by
        have z : Q (.bl (unitL (Txt.split x " "))) H2 := k'
        rw [sp] at z
        exact z
      refine ⟨_, rfl, _, _, rfl, .inr (T.t_UNIT_WORDS H2), rfl, rfl, _, rfl, ?_⟩
      refine ite2 (fun c => ?_) (fun c => ?_)
      · have c' : (!isWord y) = true := c
        have e : unitW y ts = false := by
          unfold unitW
          rw [if_neg (by intro z; rw [z] at c'; cases c')]
        rw [e] at k2
        exact k2
      have hb : isWord y = true := by
        cases z : isWord y with
        | true => rfl
        | false =>
          refine absurd ?_ c
          show (!isWord y) = true
          rw [z]
          rfl
      refine ⟨_, rfl, _, _, rfl, .inl ⟨_, SqL.of h2, rfl⟩, _, rfl, _, y, .int (numOf y), rfl, rfl, numbers_at T hb, .inl ⟨rfl, _, rfl, ?_⟩⟩
      rw [List.length_map]
      refine ite2 (fun c2 => ?_) (fun c2 => ?_)
      · have ne : ¬ (ts.length : Int) = numOf y := fun z => by
          rw [z, decide_eq_true rfl] at c2
          cases c2
        have e : unitW y ts = false := by
          unfold unitW
          rw [if_pos hb, if_neg (fun z => ne (of_decide_eq_true z))]
        rw [e] at k2
        exact k2
      have hl : (ts.length : Int) = numOf y := by
        by_cases z : (ts.length : Int) = numOf y
        · exact z
        · refine absurd ?_ c2
          rw [decide_eq_false (fun q => z (V.int.inj q))]
          rfl
      have short : ∀ t, t ∈ ts → t.length ≤ 60 := fun t ht => Nat.le_trans (split_short (x := x) (by rw [sp]; exact List.mem_cons_of_mem _ ht)) (by omega)
      have many : ts.length ≤ 60 := by
        have z : numOf y ≤ 2 := by
          unfold numOf
          split
          · decide
          · split <;> decide
        omega
      refine allW_ok (ts := ts) rfl (by show 3 < 5; decide) h2 many short fun H3 s3 => ⟨_, rfl, ?_⟩
      have k3 : ∀ H', Same H2 H' → Q (.bl (unitW y ts)) H' := fun H' sm => by
        have z : Q (.bl (unitL (Txt.split x " "))) H' := k H' (s12.trans sm)
        rw [sp] at z
        exact z
      unfold unitW at k3
      rw [if_pos hb, if_pos (decide_eq_true hl)] at k3
      cases ha : ts.all wholeText with
      | false =>
        rw [if_neg (by rw [ha]; decide)] at k3
        exact k3 _ s3
      | true =>
        rw [if_pos ha] at k3
        refine allN_ok (y := y) (ts := ts) rfl rfl (by show 4 < 5; decide) (s3 _ _ h2) many (fun t ht => Nat.le_trans (split_short (x := x) (by rw [sp]; exact List.mem_cons_of_mem _ ht)) lx) ha fun H4 s4 => ?_
        exact k3 _ (s3.trans s4)
    | _ => exact k H fun _ _ z => z
end
end L2.K32
set_option Elab.async false
set_option linter.all false
set_option maxRecDepth 100000
set_option maxHeartbeats 4000000
/-! Own exceptions raised: their fields stand in a new dict. -/
namespace L2.RV
open PySem PySem.Spec PyProof.Rows
/-- the promise of an __init__ that stores its parameters ff; the dict is new -/
def spErrN (K : PySem.W.Frag) (ff : List Str) : Sp := fun vs H Q _ => ∃ (a C : Addr) (ws : List V), vs = .ref a :: ws ∧ ws.length = ff.length ∧ OexC K C ∧ (∀ f ∈ ff, PySem.W.findIn K (.ref C) f = some none) ∧ H a = some (exo a C none) ∧
  ∀ (H' : Hp) (d : Addr) (fs : List (Str × V)), (∀ b o, b ≠ a → H b = some o → H' b = some o) → H d = none → H' a = some (exo a C (some d)) → H' d = some (exd d fs) → (∀ f v, (ff.zip ws).lookup f = some v → fs.lookup f = some v) → Q .non H'
/-- what is asked of a class that is raised -/
structure RzX (P : Program) (w : World) (K : PySem.W.Frag) (mg : Str → Option Value) (base : Heap) (x : Str) (C : Addr) (ff : List Str) : Prop where
  ex : ∃ fI fd, mg x = some (.ref C) ∧ OexC K C ∧ (∀ f ∈ ff, PySem.W.findIn K (.ref C) f = some none) ∧ PySem.W.findIn K (.ref C) "__init__" = some (some (.ref fI)) ∧ PySem.W.typeIn K (.ref fI) = some (.type "function") ∧
    FnOk P w K mg base CX0 1 fI fd (("self" : Str) :: ff) (spErrN K ff) ∧ Binds K fd (("self" : Str) :: ff) []
/-- the fields of a raised error, in its dict at d -/
def ErrX (H : Hp) (d : Addr) (l : List (Str × V)) : Prop := ∃ fs, H d = some (.xd fs) ∧ ∀ f v, l.lookup f = some v → fs.lookup f = some v
theorem ErrX.same {H H' : Hp} {d : Addr} {l : List (Str × V)} (x : ErrX H d l) (s : Same H H') : ErrX H' d l := by
  obtain ⟨fs, a, b⟩ := x
  exact ⟨fs, s _ _ a, b⟩
theorem ErrX.caught {H : Hp} {e C d : Addr} {l : List (Str × V)} (x : ErrX H d l) (n : H e = none) : ErrK (upd H e (exk (.ref C) (some d) e)) e C l := by
  obtain ⟨fs, a, b⟩ := x
  refine ⟨d, upd_same, fs, ?_, b⟩
  rw [upd_ne (ne_of_none a n)]
  exact a
section
variable {X : Cx} {x : Str} {C : Addr} {ff : List Str} {p pos pos' : Pos} {e : Expr} {es : List Expr} {ta : TA}
theorem ps_rz {W : WX} (R : RzX X.prog X.w X.K X.mg X.base x C ff) (hc : X.calm = true) (hr : Room 2 X.A) (tk : Takes X W) (hg : Gl X x) (ha : PA X (e :: es) ta) (hdb : (x == ("__debug__" : Str)) = false := by decide)
    (he : starEach (e :: es) X.env = (false, eval e X.env) :: starEach es X.env := by rfl) (hpl : (backTo pos (starEach es X.env)).any (·.1) = false := by rfl) :
    PS X (.Raise (some (.Call (.Name x p) (e :: es) [] pos)) none pos') (fun _ σ H => tMkO C (spErrN X.K ff) [] ta σ H fun cls d H' => W cls d σ H') := by
  obtain ⟨fI, fd, gC, o, no, iC, tI, F, b⟩ := R.ex
  exact ps_raise hc tk (pmk_oex o iC tI F hr b .nil pass0 hg gC ha hdb he hpl)
theorem rz_ok {P : Program} {w : World} {K : PySem.W.Frag} {mg : Str → Option Value} {base : Heap} {H1 : Hp} {vs : List V} {Q : XK} (R : RzX P w K mg base x C ff) (l : vs.length = ff.length) (few : ff.length ≤ 1000)
    (k : ∀ d H2, Same H1 H2 → ErrX H2 d (ff.zip vs) → Q (.ref C) (some d) H2) :
    vs.length ≤ 1000 ∧ ∀ a, H1 a = none → spErrN K ff (.ref a :: (vs ++ [])) (upd H1 a (exo a C none))
      (fun v H2 => v = .non ∧ ∃ (d : Addr) (fs : List (Str × V)), H2 a = some (exo a C (some d)) ∧ H2 d = some (exd d fs) ∧ H1 d = none ∧ Q (.ref C) (some d) (upd (del H2 a) d (.xd fs))) (fun _ _ _ => False) := by
  obtain ⟨fI, fd, gC, o, no, _⟩ := R.ex
  refine ⟨by rw [l]; exact few, fun a na => ⟨a, C, vs ++ [], rfl, by rw [List.append_nil]; exact l, o, no, upd_same, fun H' d fs keep nd ha hd look => ?_⟩⟩
  have da : d ≠ a := fun z => by
    rw [z, upd_same] at nd
    cases nd
  rw [upd_ne da] at nd
  refine ⟨rfl, d, fs, ha, hd, nd, k d _ (fun b u z => ?_) ⟨fs, upd_same, fun f v z => look f v (by rw [List.append_nil]; exact z)⟩⟩
  have ba := ne_of_none z na
  have bd := ne_of_none z nd
  rw [upd_ne bd, del_ne ba]
  exact keep b u ba (by rw [upd_ne ba]; exact z)
end
section
variable {P : Program} {w : World} {K : PySem.W.Frag} {mg : Str → Option Value} {base : Heap} {qual f g : Str} {fI : Addr} {fd : FuncData} {p1 p2 p3 q1 q2 q3 q4 r1 r2 r3 r4 : Pos}
theorem ok_init1N (F : FunD K "__init__" qual (args1 f p1 p2) (body1 f q1 q2 q3 q4) (scope1 f) [] [] fI fd) (S : FnScope ["self", f] ["self", f] (scope1 f)) (v0 : (scope1 f).names.lookup ("self" : Str) = some .local) (v1 : (scope1 f).names.lookup f = some .local)
    (d1 : (f == ("__debug__" : Str)) = false) (c1 : (f == ("__classdict__" : Str)) = false) (hs : ∀ env, swapsWith (.Name f q3) (some (.Attribute (.Name "self" q1) f q2)) q4.line env = pure false) :
    FnOk P w K mg base CX0 1 fI fd ["self", f] (spErrN K [f]) := by
  refine F.ok S (fun vs H Q E h => ?_) (fun cdv A outer s H vs Q E hr h => ?_)
  · obtain ⟨a, C, ws, rfl, l, _⟩ := h
    exact congrArg Nat.succ l
  · obtain ⟨a, C, ws, rfl, l, T, no, at_, k⟩ := h
    obtain ⟨v, rfl⟩ : ∃ v, ws = [v] := List.length_eq_one_iff.mp l
    refine ⟨_, PSs.nox (pss_one (ps_ost (pe_var (i := 0) rfl (.inl v0)) (pe_var (i := 1) rfl (.inl v1) d1 c1) (hs _))), ?_⟩
    refine ⟨v, rfl, .ref a, rfl, a, C, rfl, T, no f (List.mem_singleton.mpr rfl), .inl ⟨at_, fun dx nd ne => ?_⟩⟩
    refine k _ dx [(f, v)] (fun b o nb z => ?_) nd upd_same (by rw [upd_ne ne, upd_same]) (fun f' v' z => z)
    rw [upd_ne nb, upd_ne (ne_of_none z nd)]
    exact z
theorem ok_init2N (F : FunD K "__init__" qual (args2 f g p1 p2 p3) (body2 f g q1 q2 q3 q4 r1 r2 r3 r4) (scope2 f g) [] [] fI fd) (S : FnScope ["self", f, g] ["self", f, g] (scope2 f g)) (ng : f ≠ g) (v0 : (scope2 f g).names.lookup ("self" : Str) = some .local)
    (v1 : (scope2 f g).names.lookup f = some .local) (v2 : (scope2 f g).names.lookup g = some .local) (d1 : (f == ("__debug__" : Str)) = false) (c1 : (f == ("__classdict__" : Str)) = false) (d2 : (g == ("__debug__" : Str)) = false) (c2 : (g == ("__classdict__" : Str)) = false)
    (h1 : ∀ env, swapsWith (.Name f q3) (some (.Attribute (.Name "self" q1) f q2)) q4.line env = pure false) (h2 : ∀ env, swapsWith (.Name g r3) (some (.Attribute (.Name "self" r1) g r2)) r4.line env = pure false) :
    FnOk P w K mg base CX0 1 fI fd ["self", f, g] (spErrN K [f, g]) := by
  refine F.ok S (fun vs H Q E h => ?_) (fun cdv A outer s H vs Q E hr h => ?_)
  · obtain ⟨a, C, ws, rfl, l, _⟩ := h
    exact congrArg Nat.succ l
  · obtain ⟨a, C, ws, rfl, l, T, no, at_, k⟩ := h
    obtain ⟨v, u, rfl⟩ : ∃ v u, ws = [v, u] := by
      match ws, l with
      | [v, u], _ => exact ⟨v, u, rfl⟩
    refine ⟨_, PSs.nox (pss_cons (ps_ost (pe_var (i := 0) rfl (.inl v0)) (pe_var (i := 1) rfl (.inl v1) d1 c1) (h1 _)) (pss_one (ps_ost (pe_var (i := 0) rfl (.inl v0)) (pe_var (i := 2) rfl (.inl v2) d2 c2) (h2 _)))), ?_⟩
    refine ⟨v, rfl, .ref a, rfl, a, C, rfl, T, no f (by simp), .inl ⟨at_, fun dx nd ne => ?_⟩⟩
    refine ⟨u, rfl, .ref a, rfl, a, C, rfl, T, no g (by simp), .inr ⟨dx, [(f, v)], upd_same, by rw [upd_ne ne, upd_same], by show 1 ≤ 900; decide, ?_⟩⟩
    refine k _ dx [(g, u), (f, v)] (fun b o nb z => ?_) nd (by rw [upd_ne ne.symm, upd_same]) upd_same (fun f' v' z => ?_)
    · have nbd := ne_of_none z nd
      rw [upd_ne nbd, upd_ne nb, upd_ne nbd]
      exact z
    · have z' : List.lookup f' [(f, v), (g, u)] = some v' := z
      rw [lookup_put] at z'
      rw [lookup_put]
      by_cases e1 : f' = f
      · rw [if_pos e1] at z'
        cases z'
        rw [if_neg (fun e2 => ng (e1.symm.trans e2)), e1]
        exact look1 rfl
      · rw [if_neg e1, lookup_put] at z'
        by_cases e2 : f' = g
        · rw [if_pos e2] at z' ⊢
          exact z'
        · rw [if_neg e2] at z'
          cases z'
end
end L2.RV
set_option Elab.async false
set_option linter.all false
set_option maxRecDepth 100000
set_option maxHeartbeats 4000000
/-! A unit's parts. -/
namespace L2.K32
open PySem PySem.Spec PyProof.Rows L2.RV
def tInt (t : TA) : TE := tCB (fun xs H Q => ∃ a n, xs = [.str a] ∧ PySem.intText? a = some n ∧ a.length ≤ 640 ∧ Q (.int n) H) t
theorem starts1 {x z : Str} {c k : Nat} {cs : List Nat} (h : x.cps.toList = c :: cs) (hz : z.cps.toList = [k]) : Txt.startswith x z = (c == k) := by
  have lx : x.length = cs.length + 1 := by
    have e : x.cps.toList.length = x.length := Array.length_toList
    rw [← e, h]
    rfl
  have lz : z.length = 1 := by
    have e : z.cps.toList.length = z.length := Array.length_toList
    rw [← e, hz]
    rfl
  unfold Txt.startswith
  rw [StrLaws.subAt_eq, h, hz, lx, lz]
  have e1 : decide (0 + 1 ≤ cs.length + 1) = true := decide_eq_true (by omega)
  rw [e1, Bool.true_and]
  show ([c] == [k]) = (c == k)
  cases e : c == k with
  | true =>
    rw [LawfulBEq.eq_of_beq e]
    exact beq_self_eq_true _
  | false =>
    refine Bool.eq_false_iff.mpr fun z => ?_
    have := List.cons.inj (LawfulBEq.eq_of_beq z)
    rw [this.1] at e
    rw [beq_self_eq_true] at e
    cases e
theorem fold_pos : ∀ (cs : List Nat) (a : Nat), 1 ≤ a → 1 ≤ cs.foldl (fun acc c => acc * 10 + (c - 48)) a
  | [], a, h => h
  | c :: cs, a, h => fold_pos cs _ (by show 1 ≤ a * 10 + (c - 48); omega)
/-- a number of two digits at most stands without a sign -/
theorem num_plain {y t : Str} {i : Nat} (h : wholeText t = true) (l : t.length ≤ 50) (g : numB y i t = true) : Txt.startswith t "-" = false := by
  cases z : Txt.startswith t "-" with
  | false => rfl
  | true =>
    obtain ⟨_, pos, _⟩ := whole_digits h l
    unfold numB from_ wholeNum at g
    rw [if_pos z] at g
    obtain ⟨g1, _⟩ := Bool.and_eq_true_iff.mp g
    have g2 := of_decide_eq_true g1
    have zero : NumText.digitsVal (digitsOf t).cps.toList = 0 := by
      split at g2 <;> omega
    unfold wholeText at h
    split at h
    · cases h
    · rename_i nc
      rcases Bool.or_eq_true_iff.mp h with e | e
      · have e2 := of_decide_eq_true e
        rw [e2] at z
        have : Txt.startswith ("0" : Str) "-" = false := by decide +kernel
        rw [this] at z
        cases z
      · generalize digitsOf t = d at *
        cases hd : d.cps.toList with
        | nil =>
          have e3 : d.cps.toList.length = d.length := Array.length_toList
          rw [hd] at e3
          have e4 : (0 : Nat) = d.length := e3
          omega
        | cons c cs =>
          rw [starts1 hd (k := 48) rfl] at e
          have nc2 : ¬ (!Txt.isascii d || !Txt.isdigit d) = true := nc
          have asc : Txt.isascii d = true := by
            cases q : Txt.isascii d with
            | true => rfl
            | false => exact absurd (by rw [q]; rfl) nc2
          have dig : Txt.isdigit d = true := by
            cases q : Txt.isdigit d with
            | true => rfl
            | false => exact absurd (by rw [q, asc]; rfl) nc2
          have mem : c ∈ d.cps := Array.mem_def.mpr (by rw [hd]; exact List.mem_cons_self)
          have a' : d.cps.all (fun c => decide (c < 128)) = true := asc
          obtain ⟨_, b2⟩ := Bool.and_eq_true_iff.mp (show (decide (d.length > 0) && d.cps.all Unicode.isDigit) = true from dig)
          have lt : c < 128 := of_decide_eq_true (Array.all_eq_true'.mp a' c mem)
          have rng := digit_code ⟨c, lt⟩ (Array.all_eq_true'.mp b2 c mem)
          have n48 : c ≠ 48 := fun q => by
            rw [q] at e
            cases e
          rw [hd] at zero
          have := fold_pos cs (0 * 10 + (c - 48)) (by
            have r1 : 48 ≤ c := rng.1
            omega)
          have e5 : NumText.digitsVal (c :: cs) = cs.foldl (fun acc c => acc * 10 + (c - 48)) (0 * 10 + (c - 48)) := rfl
          omega
theorem num_reads {y t : Str} {i : Nat} (h : wholeText t = true) (l : t.length ≤ 50) (g : numB y i t = true) : PySem.intText? t = some (wholeNum t) := by
  have p := num_plain h l g
  obtain ⟨e, _⟩ := whole_digits h l
  have np : ¬ Txt.startswith t "-" = true := by rw [p]; decide
  have dt : digitsOf t = t := by unfold digitsOf; rw [if_neg np]
  unfold wholeNum
  rw [if_neg np]
  rw [dt] at e ⊢
  exact e
/-- unit_parts(unit) -/
def spParts (K : PySem.W.Frag) : Sp := fun vs H Q E => ∃ v : V, vs = [v] ∧ Kinds K H v ∧ (∀ x, v = .str x → x.length ≤ 50) ∧
  (∀ x y ts H' q q2, v = .str x → Txt.split x " " = y :: ts → unitW y ts = true → Same H H' → H' q2 = some (.tup (ts.map fun t => V.int (wholeNum t))) → H' q = some (.tup [.str y, .ref q2]) → Q (.ref q) H') ∧
  (unitV v = false → ∀ H' d, Same H H' → ErrX H' d [("value", v)] → E (.ref (ca K 2)) (some d) H')
section
variable {P : Program} {w : World} {K : PySem.W.Frag} {mg : Str → Option Value} {base : Heap} {fd : FuncData}
/-- tuple([int(text) for text in texts]) -/
theorem ints_ok {σ : L2.St} {H : Hp} {Q : VK} {q : Addr} {ts : List Str} (v2 : σ[2]? = some (some (.ref q))) (l3 : 3 < σ.length) (h2 : H q = some (.lst (ts.map V.str))) (few : ts.length ≤ 60) (short : ∀ t, t ∈ ts → t.length ≤ 60) (good : ∀ t, t ∈ ts → PySem.intText? t = some (wholeNum t))
    (k : ∀ H' l, Same H H' → H' l = some (.tup (ts.map fun t => V.int (wholeNum t))) → Q (.ref l) H') :
    tCB (fun xs H Q => ∃ p ys, xs = [.ref p] ∧ ((SqL K H p ys ∧ ∀ l, H l = none → Q (.ref l) (upd H l (.tup ys))) ∨ SqT K H p ys ∧ Q (.ref p) H)) (tCons (tLc (iList K (tVar 2)) (gName 3) tYes (tInt (tCons (tVar 3) tNil)) [3]) tNil) σ H Q := by
  refine ⟨_, v2, q, rfl, ⟨_, SqL.of h2⟩, fun D nD => ?_⟩
  refine lc_list (xs := ts.map V.str) (fun n H' => Same H H' ∧ H' D = some (.lst ((ts.take n).map fun t => V.int (wholeNum t)))) ⟨same_new nD, upd_same⟩ (fun n H' _ p => SqL.of (p.1 _ _ h2)) (fun n x H' hx p => ?_) (fun H' p => ?_)
  · rw [List.getElem?_map] at hx
    obtain ⟨t, ht, rfl⟩ := Option.map_eq_some_iff.mp hx
    have lt : n < ts.length := by
      rcases Nat.lt_or_ge n ts.length with z | z
      · exact z
      · rw [List.getElem?_eq_none z] at ht
        cases ht
    have mem : t ∈ ts := List.mem_of_getElem? ht
    refine ⟨by simp only [wipe, List.set_set], ?_⟩
    simp only [tYes, ↓reduceIte]
    refine ⟨_, List.getElem?_set_self (by simp only [wipe, List.length_set]; exact l3), t, _, rfl, good t mem, Nat.le_trans (short t mem) (by decide), _, p.2, ?_, same_updN p.1 nD, ?_⟩
    · rw [List.length_map, List.length_take, sizeLine_eq]
      omega
    · rw [upd_same]
      have e : ts.take (n + 1) = ts.take n ++ [t] := by
        rw [List.getElem?_eq_getElem lt] at ht
        cases ht
        exact (List.take_append_getElem lt).symm
      rw [e, List.map_append]
      rfl
  · rw [List.length_map, List.take_length] at p
    refine ⟨D, _, rfl, .inl ⟨SqL.of p.2, fun l nl => ?_⟩⟩
    exact k _ l (p.1.trans (same_new nl)) upd_same
theorem ok_unit_parts (T : Top w K mg) (R_BadUnit : RzX P w K mg base "BadUnit" (ca K 2) ["value"]) (D_is_unit : Def P w K mg base "is_unit" 4 ["value"] (spUnit K)) (F : Fn K "unit_parts" s_unit_parts fd) : FnOk P w K mg base (L2.CX P w) 5 (He.ga K "unit_parts") fd ["unit"] (spParts K) := by
  refine F.ok sc_unit_parts (fun vs H Q E h => ?_) (fun cdv A outer s H vs Q E hr h => ?_)
  · obtain ⟨v, rfl, _⟩ := h
    rfl
  · obtain ⟨v, rfl, kd, few, k1, k2⟩ := h
    have hu := hr.units
    refine ⟨_, (pss_cons (ps_if (pt_not (pt_val (pe_callD D_is_unit (hr.mono (by decide)) rfl (pa_cons (pv 0) pa_nil)))) (pss_one (ps_rz R_BadUnit rfl (hr.mono (by decide)) (takes_of rfl rfl rfl rfl) rfl (pa_cons (pv 0) pa_nil))) pss_nil)
      (pss_cons (ps_asg (pe_bm PySem.F.plainAttrs_str PySem.F.slot_str_split PySem.F.type_str_split mt_split (pv 0) (pa_cons pe_str pa_nil)) (pg_star rfl (pgs_cons (pg_name (i := 1) sc_unit_parts.nd rfl (by first | exact Or.inl rfl | exact Or.inr rfl)) (pgs_cons (pg_name (i := 2) sc_unit_parts.nd rfl (by first | exact Or.inl rfl | exact Or.inr rfl)) pgs_nil))))
      (pss_one (ps_ret (pe_tup (pa_cons (pv 1) (pa_cons (pe_callTy call_tuple_of rfl T.n_tuple (by decide +kernel) (pa_cons (pe_lc (own := [("text", 3)]) (g := gName 3) (te := tInt (tCons (tVar 3) tNil)) (tt := tYes) (by rfl) sc_unit_parts.nd (pi_list (pv 2)) (blkOk_by (own := [("text", 3)]) (N := ["unit", "word", "texts", "text"]) (sc := defScope s_unit_parts) (by decide +kernel)) (fun _ _ _ _ _ => by exact (pg_name (i := 3) sc_unit_parts.nd rfl (by first | exact Or.inl rfl | exact Or.inr rfl))) (fun _ _ _ _ _ => by exact pts_nil) (fun _ _ _ _ _ => by exact (pe_callTy call_int_str rfl T.n_int (by decide +kernel) (pa_cons (pv 3) pa_nil)))) pa_nil)) pa_nil))))))), ?_⟩
    refine ⟨_, rfl, v, rfl, kd, few, fun H1 s1 => ⟨_, rfl, ?_⟩⟩
    cases hv : unitV v with
    | false => exact ⟨_, rfl, rz_ok R_BadUnit rfl (by decide) fun d H2 s2 ex => k2 hv _ d (s1.trans s2) ex⟩
    | true =>
      cases v with
      | str x =>
        have lx := few x rfl
        obtain ⟨y, ts, sp⟩ := split_some x
        have hw : unitW y ts = true := by
          have z : unitL (Txt.split x " ") = true := hv
          rw [sp] at z
          exact z
        refine ⟨_, rfl, rfl, _, _, rfl, rfl, by decide +kernel, by rw [sizeLine_eq]; omega, fun q nq => ?_⟩
        rw [sp]
        have s2 := same_new (o := .lst ((y :: ts).map V.str)) nq
        refine ⟨q, .str y, ts.map V.str, rfl, SqL.of upd_same, fun q2 n2 m2 => ?_⟩
        have s3 := same_new (o := .lst (ts.map V.str)) n2
        have h2 : upd (upd H1 q (.lst ((y :: ts).map V.str))) q2 (.lst (ts.map V.str)) q2 = some (.lst (ts.map V.str)) := upd_same
        have s4 := (s1.trans s2).trans s3
        generalize upd (upd H1 q (.lst ((y :: ts).map V.str))) q2 (.lst (ts.map V.str)) = H2 at h2 s4 ⊢
        refine ⟨_, _, rfl, _, _, rfl, rfl, ?_⟩
        have hw2 := hw
        unfold unitW at hw2
        split at hw2
        · split at hw2
          · split at hw2
            · rename_i c1 c2 c3
              have short : ∀ t, t ∈ ts → t.length ≤ 50 := fun t ht => Nat.le_trans (split_short (x := x) (by rw [sp]; exact List.mem_cons_of_mem _ ht)) lx
              have many : ts.length ≤ 60 := by
                have z := of_decide_eq_true c2
                have z2 : numOf y ≤ 2 := by
                  unfold numOf
                  split
                  · decide
                  · split <;> decide
                omega
              have good : ∀ t, t ∈ ts → PySem.intText? t = some (wholeNum t) := fun t ht => by
                obtain ⟨i, hi, rfl⟩ := List.getElem_of_mem ht
                have mz : (ts[i], i) ∈ ts.zipIdx := by
                  rw [List.mem_iff_getElem]
                  exact ⟨i, by rw [List.length_zipIdx]; exact hi, by rw [List.getElem_zipIdx, Nat.zero_add]⟩
                exact num_reads (List.all_eq_true.mp c3 _ ht) (short _ ht) (List.all_eq_true.mp hw2 _ mz)
              refine ⟨_, rfl, ints_ok (ts := ts) rfl (by show 3 < 4; decide) h2 many (fun t ht => Nat.le_trans (short t ht) (by decide)) good fun H3 l s5 hl => ⟨(by decide : (2 : Nat) ≤ sizeLine), fun p np => ?_⟩⟩
              have s6 := same_new (o := .tup [.str y, .ref l]) np
              exact k1 x y ts _ p l rfl sp hw ((s4.trans s5).trans s6) (s6 _ _ hl) upd_same
            · cases hw2
          · cases hw2
        · cases hw2
      | _ => cases hv
end
end L2.K32
set_option Elab.async false
set_option linter.all false
set_option maxRecDepth 100000
set_option maxHeartbeats 4000000
/-! Loops over a list or a tuple, plainly and by enumerate. -/
namespace PySem
open Sem (wp)
open AutoSeq1 (wpAny_loadPart')
theorem meets_enumerate_newT (t : Addr) (items : Array Value) (o : Obj) (n : Nat) (hc : o.cls = .type "tuple") (hd : o.data = .seq items n) :
    Meets (Builtin.«enumerate.__new__» ⟨[.type "enumerate", .ref t], []⟩) (fun _ R s => s.heap.get? t = some o ∧
      R (.ok (.ret (.ref (s.heap.push { cls := .type "tuple_iterator", data := .fields #[.ref t, .int 0 0] }).objs.size)))
        { s with heap := (s.heap.push { cls := .type "tuple_iterator", data := .fields #[.ref t, .int 0 0] }).push { cls := .type "enumerate", data := .fields #[.none, .bool false, .ref s.heap.objs.size, rawInt 0, .none, .none] } }) :=
  .of_wp fun prog w A R s h => by
    obtain ⟨hp, g, d, tk, os⟩ := s; obtain ⟨hl, h⟩ := h
    have hsub := sub_enumerate
    have hL : Heap.IsTuple (Shared.heap ⟨hp, g, d, tk, os⟩) t items := ⟨_, hl, hc, n, hd⟩
    wp_walk using wpAny_loadPart' hl
    refine wpAny_stack_any fun st => wpAny_pure ?_
    split
    · rename_i c _ _ _ _ _
      cases (c == Value.type "enumerate")
      · wp_walk using wpAny_loadPart' hl, wpAny_pyIter_tuple hL
        exact ⟨_, rfl, h⟩
      · wp_walk using wpAny_loadPart' hl, wpAny_pyIter_tuple hL
        exact ⟨_, rfl, h⟩
    · wp_walk using wpAny_loadPart' hl, wpAny_pyIter_tuple hL
      exact ⟨_, rfl, h⟩
section
variable {prog : Program} {w : World} {A : Around} {E : Value → Shared → Prop} {s : Shared}
theorem call_enumerate_tuple {t : Addr} {items : Array Value} {Q : Value → Shared → Prop} (hL : s.heap.IsTuple t items)
    (h : ∀ h', IsEnum h' (s.heap.objs.size + 1) s.heap.objs.size 0 .none → h'.IsTupleIter s.heap.objs.size t 0 → h'.objs.size = s.heap.objs.size + 2 →
      (∀ b o, s.heap.get? b = some o → h'.get? b = some o) → Q (.ref (s.heap.objs.size + 1)) { s with heap := h' }) :
    wpAny (model prog w) A (call (.type "enumerate") [.ref t]) Q E s := by
  obtain ⟨ob, hl, hc, n, hd⟩ := hL
  refine callType_new F.called_enumerate (by decide) (F.typeCall_enumerate_1 _) (F.newCall_enumerate_1 _) (fun obj => F.args_object_init_2 obj _) F.entry_enumerate_new
    (meets_enumerate_newT t items ob n hc hd) ⟨hl, ?_⟩
  have hz : (s.heap.push { cls := .type "tuple_iterator", data := .fields #[.ref t, .int 0 0] }).objs.size = s.heap.objs.size + 1 := Heap.size_push ..
  show _ ∧ _
  rw [hz]
  have he : IsEnum ((s.heap.push { cls := .type "tuple_iterator", data := .fields #[.ref t, .int 0 0] }).push
      { cls := .type "enumerate", data := .fields #[.none, .bool false, .ref s.heap.objs.size, rawInt 0, .none, .none] }) (s.heap.objs.size + 1) s.heap.objs.size 0 .none := by
    have := Heap.get?_push_size (s.heap.push { cls := .type "tuple_iterator", data := .fields #[.ref t, .int 0 0] })
      (o := { cls := .type "enumerate", data := .fields #[.none, .bool false, .ref s.heap.objs.size, rawInt 0, .none, .none] }) rfl
    rw [hz] at this; exact this
  refine ⟨⟨_, he, rfl⟩, h _ he ⟨_, Heap.get?_push_of_some _ (Heap.get?_push_size _ rfl), rfl, rfl⟩ (by rw [Heap.size_push, hz]) fun b o x => Heap.get?_push_of_some _ (Heap.get?_push_of_some _ x)⟩
end
end PySem

namespace L2.RV
open PySem PySem.Spec PyProof.Rows
/-- the tuple at a, each item in a new pair with its index -/
def Itet (K : PySem.W.Frag) (a : Addr) : It :=
  ⟨fun i H => ∃ (xs : List V) (x : V), SqT K H a xs ∧ xs[i]? = some x, fun i H v H' => ∃ T x, v = .ref T ∧ H T = none ∧ H' = upd H T (.tup [.int (i : Nat), x]) ∧ ∀ xs, SqT K H a xs → xs[i]? = some x, fun i H => ∃ xs : List V, SqT K H a xs ∧ xs.length = i⟩
theorem turn_enumT {P : Program} {w : World} {K : PySem.W.Frag} {elts : List Expr} {kk : Nat} {tpos : Pos} (a e it : Addr) :
    Turn P w K (.Tuple elts kk tpos) (Itet K a) [e, it] e (fun i h => (∃ old, IsEnum h e it ((i : Nat) : Int) old) ∧ h.IsTupleIter it a i ∧ e ≠ it) where
  mem := by simp
  obj := fun i h st b hb => by
    obtain ⟨⟨old, he⟩, ⟨o, ho, hc, hd⟩, _⟩ := st
    have e' : b = e ∨ b = it := by simpa using hb
    rcases e' with z | z
    · rw [z]; exact ⟨_, he, fun v q => nomatch q⟩
    · rw [z]; exact ⟨o, ho, fun v q => by rw [hd] at q; cases q⟩
  keep := fun i h h' st k => let ⟨⟨old, he⟩, hi, hne⟩ := st; ⟨⟨old, k e (by simp) _ he⟩, hi.at fun o q => k it (by simp) o q, hne⟩
  item := by
    intro X hP hw hK hc i pins s σ H E I hf st hg
    subst hP hw hK
    obtain ⟨⟨old, he⟩, hit, hne⟩ := st
    obtain ⟨xs, x, hq, hx⟩ := hg
    obtain ⟨its, rv, p, hz⟩ := I.tuple hq
    obtain ⟨u, hu, ru⟩ := rv.get hx
    have hel : e < s.heap.objs.size := Heap.lt_size he
    have hil : it < s.heap.objs.size := by obtain ⟨_, q, _⟩ := hit; exact Heap.lt_size q
    have hT : s.heap.IsTuple a its.toArray := p
    have hei : e ≠ a := fun z => by
      obtain ⟨o, ho, c, _⟩ := hT
      have he' : s.heap.get? e = some _ := he
      rw [z, ho] at he'
      cases he'
      injection c with c
      exact absurd c (by decide)
    have hai : a ≠ it := fun z => by
      obtain ⟨o, ho, c, _⟩ := hT
      obtain ⟨o', ho', c', _⟩ := hit
      rw [z, ho'] at ho
      cases ho
      rw [c'] at c
      injection c with c
      exact absurd c (by decide)
    have D := Draws.tuple (prog := X.prog) (w := X.w) (A := X.A.in1) (I.ok.hd hc) it a hai its.toArray
    have lt : i < its.toArray.size := by
      rcases Nat.lt_or_ge i its.toArray.size with z | z
      · exact z
      · have : its[i]? = none := List.getElem?_eq_none (by simpa using z)
        rw [this] at hu
        cases hu
    refine wpAny_pyNext_enum_itemD D he ⟨hit, hT⟩ lt hne (by simp [hne, hei]) fun v h' tk hv ho hst hT' hsz hk => ?_
    have ev : v = u := by
      have z : its.toArray[i]? = some v := hv
      rw [List.getElem?_toArray] at z
      exact Option.some.inj (z.symm.trans hu)
    subst ev
    refine ⟨_, rfl, wpAny_letOwnedTupleGo_enum (s := { s with heap := h', toks := tk + 1 }) ho fun h'' he' sb => ?_⟩
    have hT2 : h''.get? s.heap.objs.size = some { cls := .type "tuple", data := .seq #[.int i tk, v] } := (sb.2 _ (Nat.ne_of_gt hel)).trans hT'
    have new : ObjOk X.prog X.w (upd H s.heap.objs.size (.tup [.int (i : Nat), x])) h'' s.heap.objs.size (.tup [.int (i : Nat), x]) :=
      ⟨by show 2 ≤ sizeLine; decide, [.int i tk, v], .cons ⟨_, rfl⟩ (.cons ru .nil), ⟨_, hT2, rfl, _, rfl⟩⟩
    have I1 : Inv X pins σ (upd H s.heap.objs.size (.tup [.int (i : Nat), x])) { s with heap := h'', toks := tk + 1 } :=
      I.turnedNew (ch := [e, it]) (fun b ob hb q => (sb.2 b (fun z => hb (by simp [z]))).trans (hk b ob (fun z => hb (by simp [z])) (fun z => hb (by simp [z])) q)) hf (Nat.le_refl _) new
    refine ⟨.ref s.heap.objs.size, _, I1, rfl, ⟨_, x, rfl, I.hok.fresh (Nat.le_refl _), rfl, fun ys hy => by rw [I.tuple_inj hy hq]; exact hx⟩, ⟨⟨v, ?_⟩, hst.1.at fun o q => (sb.2 it (Ne.symm hne)).trans q, hne⟩, fun b hb => ?_⟩
    · have e1 : ((i + 1 : Nat) : Int) = (i : Int) + 1 := by omega
      rw [e1]; exact he'
    · have hb' : b < s.heap.objs.size := by
        have e' : b = e ∨ b = it := by simpa using hb
        rcases e' with z | z
        · rw [z]; exact hel
        · rw [z]; exact hil
      rw [upd_ne (Nat.ne_of_lt hb')]
      exact (hf b hb).1
  done := by
    intro X hP hw hK hc i pins s σ H E I hf st hg
    subst hP hw hK
    obtain ⟨⟨old, he⟩, hit, hne⟩ := st
    obtain ⟨xs, hq, hx⟩ := hg
    obtain ⟨its, rv, p, hz⟩ := I.tuple hq
    obtain ⟨f0, f1, f2, f3, f4, f5⟩ := hf it (by simp)
    have hl := rv.length
    have hT : s.heap.IsTuple a its.toArray := p
    have hai : a ≠ it := fun z => by
      obtain ⟨o, ho, c, _⟩ := hT
      obtain ⟨o', ho', c', _⟩ := hit
      rw [z, ho'] at ho
      cases ho
      rw [c'] at c
      injection c with c
      exact absurd c (by decide)
    have D := Draws.tuple (prog := X.prog) (w := X.w) (A := X.A.in1) (I.ok.hd hc) it a hai its.toArray
    have en : its.toArray.size = i := by
      rw [List.size_toArray]
      omega
    refine wpAny_pyNext_enum_endD D he ?_ fun h' eb => ⟨rfl, I.turned (t' := s.toks) (fun b o hb q => eb b o hb q) f0 f1 f3 f4 f5⟩
    rw [en]
    exact ⟨hit, hT⟩
  self := fun A i s Q E st h => let ⟨⟨_, he⟩, _⟩ := st; wpAny_pyIter_enum he h
/-- a list or a tuple stands at a -/
def Sq (K : PySem.W.Frag) (H : Hp) (a : Addr) (xs : List V) : Prop := SqT K H a xs ∨ SqL K H a xs
/-- it stands there still -/
def SqKeep (K : PySem.W.Frag) (a : Addr) (xs : List V) (H1 H : Hp) : Prop := (SqT K H1 a xs → SqT K H a xs) ∧ (SqL K H1 a xs → SqL K H a xs)
theorem Rd.keep {H H' : Hp} {a : Addr} {u : HO} (r : Rd H a u) (s : ∀ o, H a = some o → H' a = some o) : Rd H' a u := by
  rcases r with e | ⟨o, e⟩
  · exact .inl (s _ e)
  · exact .inr ⟨o, s _ e⟩
theorem SqKeep.of_eq {K : PySem.W.Frag} {a : Addr} {xs : List V} {H1 H : Hp} (s : ∀ o, H1 a = some o → H a = some o) : SqKeep K a xs H1 H := by
  refine ⟨fun z => ?_, fun z => ?_⟩
  · rcases z with z | z
    · exact .inl (Rd.keep z s)
    · exact .inr z
  · rcases z with z | z
    · exact .inl (Rd.keep z s)
    · exact .inr z
theorem SqKeep.of_same {K : PySem.W.Frag} {a : Addr} {xs : List V} {H1 H : Hp} (s : Same H1 H) : SqKeep K a xs H1 H := .of_eq fun o e => s a o e
theorem Sq.keep {K : PySem.W.Frag} {a : Addr} {xs : List V} {H1 H : Hp} (q : Sq K H1 a xs) (s : SqKeep K a xs H1 H) : Sq K H a xs := q.imp s.1 s.2
/-- over a list or a tuple -/
def iSq (K : PySem.W.Frag) (te : TE) : TI := fun σ H R => te σ H fun x H1 => ∃ a xs, x = .ref a ∧ Sq K H1 a xs ∧ ∀ J, Walk J xs.length (SqKeep K a xs H1) (YAt xs) → R J H1
/-- over enumerate of a list or a tuple -/
def iEnumSq (K : PySem.W.Frag) (ta : TA) : TI := fun σ H R => ta σ H fun vs H1 => ∃ a xs, vs = [.ref a] ∧ Sq K H1 a xs ∧ ∀ J, Walk J xs.length (SqKeep K a xs H1) (YPair (fun i => some (.int (i : Nat))) (fun i => xs[i]?)) → R J H1
section
variable {X : Cx} {tg e : Expr} {te : TE} {ta : TA}
theorem pi_sq (he : PE X e te) : PI X tg e (iSq X.K te) := by
  refine ⟨fun pins s σ H R I h => ?_⟩
  refine thn (he.run pins s σ H _ I h) fun v s1 ⟨x, H1, I1, r1, a, xs, ex, hq, q⟩ => ?_
  subst ex
  cases r1
  rcases hq with hq | hq
  · obtain ⟨its, rv, p, hz⟩ := I1.tuple hq
    refine wpAny_pyIter_tuple (show s1.heap.IsTuple a its.toArray from p) ?_
    refine ⟨s1.heap.objs.size, [s1.heap.objs.size], _, _, H1, rfl, I1.kept (t' := s1.toks) fun b o e => Heap.get?_push_of_some _ e, turn_tuple a _, ⟨_, Heap.get?_push_size _ rfl, rfl, rfl⟩, fun b hb => ?_, q _ (walk_tup.mono (fun H k => k.1 hq) fun _ _ _ _ _ _ y => y)⟩
    have e : b = s1.heap.objs.size := by simpa using hb
    subst e
    exact I1.fpOk (Nat.le_refl _) (I1.hok.fresh (Nat.le_refl _))
  · obtain ⟨its, rv, p, hz⟩ := I1.list hq
    refine wpAny_pyIter_list p.isList ?_
    refine ⟨s1.heap.objs.size, [s1.heap.objs.size], _, _, H1, rfl, I1.kept (t' := s1.toks) fun b o e => Heap.get?_push_of_some _ e, turn_list a _, ⟨_, Heap.get?_push_size _ rfl, rfl, rfl⟩, fun b hb => ?_, q _ (Walk.mono L2.walk_list (fun H k => k.2 hq) fun _ _ _ _ _ _ y => y)⟩
    have e : b = s1.heap.objs.size := by simpa using hb
    subst e
    exact I1.fpOk (Nat.le_refl _) (I1.hok.fresh (Nat.le_refl _))
theorem walk_enumT {K : PySem.W.Frag} {a : Addr} {xs : List V} : Walk (Itet K a) xs.length (fun H => SqT K H a xs) (YPair (fun i => some (.int (i : Nat))) (fun i => xs[i]?)) := by
  refine ⟨fun i _ hi q => ⟨xs, xs[i], q, by simp [hi]⟩, fun _ q => ⟨xs, q, rfl⟩, fun i H v H' _ q y => ?_⟩
  obtain ⟨T, x, h1, h2, h3, h4⟩ := y
  exact ⟨T, .int (i : Nat), x, h1, h2, h3, rfl, h4 xs q⟩
theorem pi_enumSq {p pos tpos : Pos} {elts : List Expr} {kk : Nat} (hg : Gl X "enumerate") (hm : X.mg "enumerate" = none) (ha : PA X [e] ta) (hs : starEach [e] X.env = [(false, eval e X.env)] := by rfl) :
    PI X (.Tuple elts kk tpos) (.Call (.Name "enumerate" p) [e] [] pos) (iEnumSq X.K ta) := by
  refine ⟨fun pins s σ H R I h => ?_⟩
  refine Call_ (ld_blt I hg hm boot_enumerate (PyProof.Rows.callWith_type1 (thn (ha.run pos pins s σ H _ I h) fun us s1 ⟨vs, H1, I1, r1, q1⟩ => ?_) hs rfl))
  obtain ⟨a, xs, ex, hq, q⟩ := q1
  subst ex
  cases r1 with
  | cons r rr =>
    cases rr
    cases r
    have fin : ∀ b, b ∈ [s1.heap.objs.size + 1, s1.heap.objs.size] → FpOk X pins H1 b := fun b hb => by
      have e' : b = s1.heap.objs.size + 1 ∨ b = s1.heap.objs.size := by simpa using hb
      have hle : s1.heap.objs.size ≤ b := by
        rcases e' with z | z
        · rw [z]; exact Nat.le_add_right _ _
        · rw [z]; exact Nat.le_refl _
      exact I1.fpOk hle (I1.hok.fresh hle)
    rcases hq with hq | hq
    · obtain ⟨its, rv, p', hz⟩ := I1.tuple hq
      refine call_enumerate_tuple (show s1.heap.IsTuple a its.toArray from p') fun h' he hit hsz hk => wpAny_pyIter_enum he ?_
      have I2 : Inv X pins σ H1 { s1 with heap := h' } := I1.kept (t' := s1.toks) hk
      exact ⟨s1.heap.objs.size + 1, [s1.heap.objs.size + 1, s1.heap.objs.size], _, _, H1, rfl, I2, turn_enumT a (s1.heap.objs.size + 1) s1.heap.objs.size, ⟨⟨.none, he⟩, hit, Nat.succ_ne_self _⟩, fin, q _ (walk_enumT.mono (fun H k => k.1 hq) fun _ _ _ _ _ _ y => y)⟩
    · obtain ⟨its, rv, p', hz⟩ := I1.list hq
      refine call_enumerate_list p'.isList fun h' he hit hsz hk => wpAny_pyIter_enum he ?_
      have I2 : Inv X pins σ H1 { s1 with heap := h' } := I1.kept (t' := s1.toks) hk
      exact ⟨s1.heap.objs.size + 1, [s1.heap.objs.size + 1, s1.heap.objs.size], _, _, H1, rfl, I2, turn_enum a (s1.heap.objs.size + 1) s1.heap.objs.size, ⟨⟨.none, he⟩, hit, Nat.succ_ne_self _⟩, fin, q _ (walk_enum.mono (fun H k => k.2 hq) fun _ _ _ _ _ _ y => y)⟩
end
end L2.RV
set_option Elab.async false
set_option linter.all false
set_option maxRecDepth 100000
set_option maxHeartbeats 4000000
/-! Texts of units; the errors that are raised. -/
namespace L2.K32
open PySem PySem.Spec PyProof.Rows L2.RV
def tStrI (t : TA) : TE := tCB (fun xs H Q => ∃ i, xs = [.int i] ∧ i.natAbs.log2 < 1920 ∧ Q (.str (toString i)) H) t
/-- the text of a unit -/
def textOf (x : Str) (ns : List Int) : Str := Txt.join " " (x :: ns.map fun n => (toString n : Str))
/-- text_of(word, numbers) -/
def spTextOf (K : PySem.W.Frag) : Sp := fun vs H Q _ => ∃ (x : Str) (p : Addr) (ns : List Int), vs = [.str x, .ref p] ∧ x.length ≤ 50 ∧ Sq K H p (ns.map V.int) ∧ ns.length ≤ 2 ∧ (∀ n, n ∈ ns → 0 ≤ n ∧ n ≤ 99) ∧ ∀ H', Same H H' → Q (.str (textOf x ns)) H'
theorem small99 {n : Int} (h0 : 0 ≤ n) (h1 : n ≤ 99) : n.natAbs.log2 < 1920 ∧ (toString n : Str).length ≤ 2 := by
  have all : ∀ k : Fin 100, (((k.val : Nat) : Int)).natAbs.log2 < 1920 ∧ (toString ((k.val : Nat) : Int) : Str).length ≤ 2 := by decide +kernel
  obtain ⟨m, rfl⟩ := Int.eq_ofNat_of_zero_le h0
  exact all ⟨m, by omega⟩
theorem unit_size {x : Str} {ns : List Int} (lx : x.length ≤ 50) (few : ns.length ≤ 2) (rng : ∀ n, n ∈ ns → 0 ≤ n ∧ n ≤ 99) :
    ((x :: ns.map fun n => (toString n : Str)).map (·.length)).sum + (x :: ns.map fun n => (toString n : Str)).length * (" " : Str).length ≤ 16777216 := by
  have sp : (" " : Str).length = 1 := by decide +kernel
  have all : ∀ ms : List Int, (∀ n, n ∈ ms → 0 ≤ n ∧ n ≤ 99) → ((ms.map fun n => (toString n : Str)).map (·.length)).sum ≤ 2 * ms.length := by
    intro ms
    induction ms with
    | nil => intro _; exact Nat.le_refl _
    | cons m ms ih =>
      intro h
      have z := (small99 (h m List.mem_cons_self).1 (h m List.mem_cons_self).2).2
      have r := ih fun n hn => h n (List.mem_cons_of_mem _ hn)
      rw [List.map_cons, List.map_cons, List.sum_cons, List.length_cons]
      omega
  have r := all ns rng
  rw [sp, List.map_cons, List.sum_cons, List.length_cons, List.length_map]
  omega
theorem unit_list {xs ys : List V} {H : Hp} {R : Addr → Hp → Prop} (e : xs = ys) (few : ys.length ≤ sizeLine) (h : ∀ q, H q = none → R q (upd H q (.lst ys))) : xs.length ≤ sizeLine ∧ ∀ q, H q = none → q ≠ sysModules → R q (upd H q (.lst xs)) := by
  subst e
  exact ⟨few, fun q n _ => h q n⟩
/-- [str(n) for n in ns] -/
theorem strs_ok {K : PySem.W.Frag} {σ : L2.St} {H : Hp} {Q : VK} {p : Addr} {ns : List Int} {i j : Nat} (v : σ[i]? = some (some (.ref p))) (lj : j < σ.length) (ij : i ≠ j) (sq : Sq K H p (ns.map V.int)) (few : ns.length ≤ 60) (rng : ∀ n, n ∈ ns → n.natAbs.log2 < 1920)
    (k : ∀ H' D, Same H H' → H' D = some (.lst (ns.map fun n => V.str (toString n))) → Q (.ref D) H') : tLc (iSq K (tVar i)) (gName j) tYes (tStrI (tCons (tVar j) tNil)) [j] σ H Q := by
  refine ⟨_, v, p, _, rfl, sq, fun J wk D nD => ?_⟩
  refine lc_it wk (fun n H' => Same H H' ∧ H' D = some (.lst ((ns.take n).map fun n => V.str (toString n)))) ⟨same_new nD, upd_same⟩ (fun n H' _ p => SqKeep.of_same p.1) (fun n x H' H2 hn p y => ?_) (fun H' p => ?_)
  · obtain ⟨rfl, hx⟩ := y
    rw [List.getElem?_map] at hx
    obtain ⟨t, ht, rfl⟩ := Option.map_eq_some_iff.mp hx
    have lt : n < ns.length := by rw [List.length_map] at hn; exact hn
    refine ⟨by simp only [wipe, List.set_set], ?_⟩
    simp only [tYes, ↓reduceIte]
    refine ⟨_, List.getElem?_set_self (by simp only [wipe, List.length_set]; exact lj), t, rfl, rng t (List.mem_of_getElem? ht), _, p.2, ?_, same_updN p.1 nD, ?_⟩
    · rw [List.length_map, List.length_take, sizeLine_eq]
      omega
    · rw [upd_same]
      have e : ns.take (n + 1) = ns.take n ++ [t] := by
        rw [List.getElem?_eq_getElem lt] at ht
        cases ht
        exact (List.take_append_getElem lt).symm
      rw [e, List.map_append]
      rfl
  · rw [List.length_map, List.take_length] at p
    exact k _ D p.1 p.2
section
variable {P : Program} {w : World} {K : PySem.W.Frag} {mg : Str → Option Value} {h base : Heap} {fd : FuncData}
theorem rz_BadUnit (T : Top w K mg) (c : SaysRT chk fn tabs w K) : RzX P w K mg base "BadUnit" (ca K 2) ["value"] := by
  obtain ⟨fd, F⟩ := c.d.def_ 40 (d := d_BadUnit) rfl
  obtain ⟨iC, tI, no⟩ := iniB_ok (List.all_eq_true.mp (ba2 (ba2 c.d.look).2).1 _ (List.mem_of_getElem? (i := 0) (a := (("BadUnit" : Str), ([("value" : Str)] : List Str))) rfl))
  refine ⟨_, fd, T.c_BadUnit, T.ox 2 (by decide), no, iC, tI, ok_init1N (p1 := _) (p2 := _) (q1 := _) (q2 := _) (q3 := _) (q4 := _) F ⟨rfl, rfl, rfl, by decide +kernel, rfl, by decide +kernel, by decide +kernel⟩ (by decide +kernel) (by decide +kernel) (by decide +kernel) (by decide +kernel) (fun _ => rfl), F.bindsN (fun _ _ _ _ _ _ us hl => match us, hl with | [_, _], _ => rfl)⟩
theorem rz_BadCount (T : Top w K mg) (c : SaysRT chk fn tabs w K) : RzX P w K mg base "BadCount" (ca K 3) ["value"] := by
  obtain ⟨fd, F⟩ := c.d.def_ 41 (d := d_BadCount) rfl
  obtain ⟨iC, tI, no⟩ := iniB_ok (List.all_eq_true.mp (ba2 (ba2 c.d.look).2).1 _ (List.mem_of_getElem? (i := 1) (a := (("BadCount" : Str), ([("value" : Str)] : List Str))) rfl))
  refine ⟨_, fd, T.c_BadCount, T.ox 3 (by decide), no, iC, tI, ok_init1N (p1 := _) (p2 := _) (q1 := _) (q2 := _) (q3 := _) (q4 := _) F ⟨rfl, rfl, rfl, by decide +kernel, rfl, by decide +kernel, by decide +kernel⟩ (by decide +kernel) (by decide +kernel) (by decide +kernel) (by decide +kernel) (fun _ => rfl), F.bindsN (fun _ _ _ _ _ _ us hl => match us, hl with | [_, _], _ => rfl)⟩
theorem rz_BadText (T : Top w K mg) (c : SaysRT chk fn tabs w K) : RzX P w K mg base "BadText" (ca K 4) ["line", "word"] := by
  obtain ⟨fd, F⟩ := c.d.def_ 42 (d := d_BadText) rfl
  obtain ⟨iC, tI, no⟩ := iniB_ok (List.all_eq_true.mp (ba2 (ba2 c.d.look).2).1 _ (List.mem_of_getElem? (i := 2) (a := (("BadText" : Str), ([("line" : Str), ("word" : Str)] : List Str))) rfl))
  refine ⟨_, fd, T.c_BadText, T.ox 4 (by decide), no, iC, tI, ok_init2N F ⟨rfl, rfl, rfl, by decide +kernel, rfl, by decide +kernel, by decide +kernel⟩ (by decide +kernel) (by decide +kernel) (by decide +kernel) (by decide +kernel) (by decide +kernel) (by decide +kernel) (by decide +kernel) (by decide +kernel) (fun _ => rfl) (fun _ => rfl), F.bindsN (fun _ _ _ _ _ _ us hl => match us, hl with | [_, _, _], _ => rfl)⟩
theorem ok_text_of (T : Top w K mg) (F : Fn K "text_of" s_text_of fd) : FnOk P w K mg base CX0 1 (He.ga K "text_of") fd ["word", "numbers"] (spTextOf K) := by
  refine F.ok sc_text_of (fun vs H Q E h => ?_) (fun cdv A outer s H vs Q E hr h => ?_)
  · obtain ⟨x, p, ns, rfl, _⟩ := h
    rfl
  · obtain ⟨x, p, ns, rfl, lx, sq, few, rng, k⟩ := h
    have hu := hr.units
    refine ⟨_, PSs.nox (pss_one (ps_ret (pe_bm PySem.F.plainAttrs_str PySem.F.slot_str_join PySem.F.type_str_join mt_join pe_str (pa_cons (pe_lstN (pa_cons (pv 0) (StX.pa_star (pe_lc (own := [("number", 2)]) (g := gName 2) (te := tStrI (tCons (tVar 2) tNil)) (tt := tYes) (by rfl) sc_text_of.nd (pi_sq (pv 1)) (blkOk_by (own := [("number", 2)]) (N := ["word", "numbers", "number"]) (sc := defScope s_text_of) (by decide +kernel)) (fun _ _ _ _ _ => by exact (pg_name (i := 2) sc_text_of.nd rfl (by first | exact Or.inl rfl | exact Or.inr rfl))) (fun _ _ _ _ _ => by exact pts_nil) (fun _ _ _ _ _ => by exact (pe_callTy call_str_int rfl T.n_str (by decide +kernel) (pa_cons (pv 2) pa_nil)))) pa_nil))) pa_nil)))), ?_⟩
    refine ⟨rfl, _, rfl, strs_ok (i := 1) (j := 2) (ns := ns) rfl (by show 2 < 3; decide) (by decide) sq (by omega) (fun n hn => ?_) (fun H1 D s1 hD => ⟨D, _, rfl, .inr (SqL.of hD), ?_⟩)⟩
    · exact (small99 (rng n hn).1 (rng n hn).2).1
    · have few' : ns.length ≤ 2 := few
      have eq1 : V.str x :: (List.map (fun n : Int => V.str (toString n : Str)) ns ++ []) = (x :: ns.map fun n => (toString n : Str)).map V.str := by
        rw [List.append_nil, List.map_cons, List.map_map]
        rfl
      refine unit_list eq1 (by rw [List.length_map, List.length_cons, List.length_map, sizeLine_eq]; omega) fun q nq => ⟨_, q, _, rfl, rfl, .inl (SqL.of upd_same), unit_size lx few' rng, ?_⟩
      exact k _ (s1.trans (same_new nq))
end
end L2.K32
set_option Elab.async false
set_option linter.all false
set_option maxRecDepth 100000
set_option maxHeartbeats 4000000
/-! Units made of a word and numbers. -/
namespace L2.K32
open PySem PySem.Spec PyProof.Rows L2.RV
def numV (x : Str) (i : Nat) (u : V) : Bool := from_ (if x = "cell" ∧ (i : Int) = 0 then 1 else 0) 99 u
/-- the first of the numbers that cannot stand -/
def firstBad (x : Str) : Nat → List V → Option V
  | _, [] => none
  | i, u :: us => if numV x i u = true then firstBad x (i + 1) us else some u
def intOf : V → Int
  | .int n => n
  | _ => 0
inductive UO where
  | text (s : Str)
  | unit (v : V)
  | count (n : Int)
/-- what unit_of comes to -/
def unitOfR (v : V) (ws : List V) : UO :=
  match v with
  | .str x => if isWord x = true then (match firstBad x 0 ws with
    | some u => .unit u
    | none => if (ws.length : Int) = numOf x then .text (textOf x (ws.map intOf)) else .count ws.length) else .unit v
  | _ => .unit v
/-- how it is told -/
def UOk (K : PySem.W.Frag) (H : Hp) (Q : VK) (E : XK) : UO → Prop
  | .text s => ∀ H', Same H H' → Q (.str s) H'
  | .unit u => ∀ H' d, Same H H' → ErrX H' d [("value", u)] → E (.ref (ca K 2)) (some d) H'
  | .count n => ∀ H' d, Same H H' → ErrX H' d [("value", .int n)] → E (.ref (ca K 3)) (some d) H'
/-- unit_of(word, *numbers), in its body -/
def spUnitOfB (K : PySem.W.Frag) : Sp := fun vs H Q E => ∃ (v : V) (p : Addr) (ws : List V), vs = [v, .ref p] ∧ H p = some (.tup ws) ∧ Kinds K H v ∧ (∀ u, u ∈ ws → ∀ H', Same H H' → Kinds K H' u) ∧ ws.length ≤ 3 ∧ (∀ x, v = .str x → x.length ≤ 50) ∧ UOk K H Q E (unitOfR v ws)
/-- unit_of(word, n, ..) -/
def spUnitOf (K : PySem.W.Frag) : Sp := fun vs H Q E => ∃ (v : V) (ws : List V), vs = v :: ws ∧ (∀ H', Same H H' → Kinds K H' v) ∧ (∀ u, u ∈ ws → ∀ H', Same H H' → Kinds K H' u) ∧ ws.length ≤ 3 ∧ (∀ x, v = .str x → x.length ≤ 50) ∧ UOk K H Q E (unitOfR v ws)
theorem firstBad_at {x : Str} {u : V} : ∀ {ws : List V} {i n : Nat}, (∀ j y, j < n → ws[j]? = some y → numV x (i + j) y = true) → ws[n]? = some u → numV x (i + n) u = false → firstBad x i ws = some u
  | [], i, n, _, h, _ => by cases h
  | y :: ys, i, 0, _, h, hb => by
    cases h
    show (if numV x i u = true then firstBad x (i + 1) ys else some u) = some u
    rw [if_neg (by rw [show numV x i u = false from hb]; decide)]
  | y :: ys, i, n + 1, hg, h, hb => by
    have g0 : numV x i y = true := hg 0 y (Nat.zero_lt_succ _) rfl
    show (if numV x i y = true then firstBad x (i + 1) ys else some y) = some u
    rw [if_pos g0]
    refine firstBad_at (n := n) (fun j z hj hz => ?_) h (by rw [show i + 1 + n = i + (n + 1) by omega]; exact hb)
    have := hg (j + 1) z (by omega) hz
    rwa [show i + 1 + j = i + (j + 1) by omega]
theorem firstBad_none {x : Str} : ∀ {ws : List V} {i : Nat}, (∀ j y, ws[j]? = some y → numV x (i + j) y = true) → firstBad x i ws = none
  | [], i, _ => rfl
  | y :: ys, i, hg => by
    have g0 : numV x i y = true := hg 0 y rfl
    show (if numV x i y = true then firstBad x (i + 1) ys else some y) = none
    rw [if_pos g0]
    refine firstBad_none fun j z hz => ?_
    have := hg (j + 1) z hz
    rwa [show i + 1 + j = i + (j + 1) by omega]
theorem numV_int {x : Str} {i : Nat} {u : V} (h : numV x i u = true) : u = .int (intOf u) ∧ 0 ≤ intOf u ∧ intOf u ≤ 99 := by
  cases u with
  | int n =>
    refine ⟨rfl, ?_⟩
    obtain ⟨a, b⟩ := Bool.and_eq_true_iff.mp (show (decide ((if x = "cell" ∧ (i : Int) = 0 then (1 : Int) else 0) ≤ n) && decide (n ≤ 99)) = true from h)
    have a' := of_decide_eq_true a
    have b' := of_decide_eq_true b
    refine ⟨?_, b'⟩
    show 0 ≤ n
    split at a' <;> omega
  | _ => cases h
section
variable {P : Program} {w : World} {K : PySem.W.Frag} {mg : Str → Option Value} {h base : Heap} {fd : FuncData}
theorem ok_unit_of (T : Top w K mg) (R_BadUnit : RzX P w K mg base "BadUnit" (ca K 2) ["value"]) (R_BadCount : RzX P w K mg base "BadCount" (ca K 3) ["value"]) (D_is_number : Def P w K mg base "is_number" 3 ["word", "at", "value"] (spNumber K)) (D_text_of : Def P w K mg base "text_of" 1 ["word", "numbers"] (spTextOf K))
    (hg : mg "unit_of" = some (.ref (He.ga K "unit_of"))) (F : Fn K "unit_of" s_unit_of fd) : DefR (L2.CX P w) P w K mg base "unit_of" 4 "word" (spUnitOf K) := by
  have body : ∀ (cdv : Value) (A : Around) (outer : List Env) (s : Shared) (H : Hp) (vs : List V) (Q : VK) (E : XK), Room 3 (A.deeper (envOfC "unit_of" (defScope s_unit_of) s.heap.objs.size (He.ga K "unit_of") cdv)) → spUnitOfB K vs H Q E →
      ∃ t, PSs (cxOf (L2.CX P w) P w K mg base ["word", "numbers", "at", "number"] "unit_of" (defScope s_unit_of) (He.ga K "unit_of") cdv A outer s H E) (defBody s_unit_of) t ∧ t { nx := fun _ H' => Q .non H', rt := Q } (start ["word", "numbers", "at", "number"] vs) H := by
    intro cdv A outer s H vs Q E hr h
    obtain ⟨v, p, ws, rfl, hp, kd, kds, few, lx, k⟩ := h
    have hu := hr.units
    refine ⟨_, (pss_cons (ps_if (PW.pt (pw_or (pt_not (pt_val (pe_callB call_isi rfl T.n_isinstance (by decide +kernel) (pa_cons (pv 0) (pa_cons (pe_bltn (v := .ty "str") (u := .type "str") rfl T.n_str (by decide +kernel) rfl) pa_nil))))) (pw_or1 (pt_cmpR op_notIn_seq (pv 0) (pe_glob (v := .ref (He.ga K "UNIT_WORDS")) rfl T.g_UNIT_WORDS rfl) rfl)))) (pss_one (ps_rz R_BadUnit rfl (hr.mono (by decide)) (takes_of rfl rfl rfl rfl) rfl (pa_cons (pv 0) pa_nil))) pss_nil)
      (pss_cons (ps_for (passes_of rfl) rfl (pi_enumSq rfl T.n_enumerate (pa_cons (pv 1) pa_nil)) (pg_tup rfl (pgs_cons (pg_name (i := 2) sc_unit_of.nd rfl (by first | exact Or.inl rfl | exact Or.inr rfl)) (pgs_cons (pg_name (i := 3) sc_unit_of.nd rfl (by first | exact Or.inl rfl | exact Or.inr rfl)) pgs_nil))) (pss_one (ps_if (pt_not (pt_val (pe_callD D_is_number (hr.mono (by decide)) rfl (pa_cons (pv 0) (pa_cons (pv 2) (pa_cons (pv 3) pa_nil)))))) (pss_one (ps_rz R_BadUnit rfl (hr.mono (by decide)) (takes_of rfl rfl rfl rfl) rfl (pa_cons (pv 3) pa_nil))) pss_nil)))
      (pss_cons (ps_if (pt_cmpR (op_diff hu) (pe_callB call_len rfl T.n_len (by decide +kernel) (pa_cons (pv 1) pa_nil)) (pe_ix ix_kdict (pe_glob (v := .ref (He.ga K "NUMBERS")) rfl T.g_NUMBERS rfl) (pv 0) (fun _ _ => rfl)) (nomark _)) (pss_one (ps_rz R_BadCount rfl (hr.mono (by decide)) (takes_of rfl rfl rfl rfl) rfl (pa_cons (pe_callB call_len rfl T.n_len (by decide +kernel) (pa_cons (pv 1) pa_nil)) pa_nil))) pss_nil)
      (pss_one (ps_ret (pe_callD D_text_of (hr.mono (by decide)) rfl (pa_cons (pv 0) (pa_cons (pv 1) pa_nil)))))))), ?_⟩
    obtain ⟨n, ty, ki, kb, ks⟩ := kd.ex
    refine ⟨_, rfl, _, _, _, _, _, rfl, .ty "str", ty, kit_ty ks, _, rfl, ?_⟩
    cases v with
    | str x =>
      have lx' := lx x rfl
      refine ⟨_, rfl, _, _, rfl, .inr (T.t_UNIT_WORDS H), rfl, rfl, _, rfl, ?_⟩
      refine ite2 (fun c => ?_) (fun c => ?_)
      · have c' : (!isWord x) = true := c
        have ek : unitOfR (.str x) ws = .unit (.str x) := by
          show (if isWord x = true then _ else _) = _
          rw [if_neg (by intro z; rw [z] at c'; cases c')]
        rw [ek] at k
        exact ⟨_, rfl, rz_ok R_BadUnit rfl (by decide) fun d H2 s2 ex => k _ d s2 ex⟩
      have hb : isWord x = true := by
        cases z : isWord x with
        | true => rfl
        | false =>
          refine absurd ?_ c
          show (!isWord x) = true
          rw [z]
          rfl
      refine ⟨_, rfl, p, ws, rfl, .inl (SqT.of hp), fun J wk => ?_⟩
      refine for_it wk (fun n σ' H' => (∃ a b, σ' = [some (.str x), some (.ref p), a, b]) ∧ Same H H' ∧ ∀ j y, j < n → ws[j]? = some y → numV x j y = true) ⟨⟨_, _, rfl⟩, fun _ _ z => z, fun _ _ z => absurd z (Nat.not_lt_zero _)⟩ (fun n σ' H' _ q => SqKeep.of_same q.2.1) (fun n z σ' H' H'' hn q yy => ?_) (fun σ' H' q => ?_)
      · obtain ⟨⟨a, b, rfl⟩, sm, good⟩ := q
        obtain ⟨T', x1, x2, rfl, nT, rfl, e1, e2⟩ := yy
        cases e1
        have e3 : ws[n]? = some x2 := e2
        have sT := same_new (o := .tup [.int ((n : Nat) : Int), x2]) nT
        refine ⟨T', _, rfl, SqT.of upd_same, rfl, _, _, rfl, _, _, rfl, rfl, ?_⟩
        refine ⟨_, rfl, _, rfl, _, rfl, x, _, x2, rfl, kds x2 (List.mem_of_getElem? e3) _ (sm.trans sT), _, rfl, ?_⟩
        show if (!numV x n x2) = true then _ else _
        refine ite2 (fun c => ?_) (fun c => ?_)
        · have bad : numV x n x2 = false := by
            cases q : numV x n x2 with
            | false => rfl
            | true => rw [q] at c; cases c
          have fb : firstBad x 0 ws = some x2 := firstBad_at (n := n) (fun j y hj hy => by rw [Nat.zero_add]; exact good j y hj hy) e3 (by rw [Nat.zero_add]; exact bad)
          have ek : unitOfR (.str x) ws = .unit x2 := by
            show (if isWord x = true then _ else _) = _
            rw [if_pos hb, fb]
          rw [ek] at k
          exact ⟨_, rfl, rz_ok R_BadUnit rfl (by decide) fun d H2 s2 ex => k _ d ((sm.trans sT).trans s2) ex⟩
        · have ok : numV x n x2 = true := by
            cases q : numV x n x2 with
            | true => rfl
            | false => 
              refine absurd ?_ c
              rw [q]
              rfl
          refine ⟨⟨_, _, rfl⟩, sm.trans sT, fun j y hj hy => ?_⟩
          rcases Nat.lt_or_ge j n with z | z
          · exact good j y z hy
          · obtain rfl : j = n := by omega
            rw [e3] at hy
            cases hy
            exact ok
      · obtain ⟨⟨a, b, rfl⟩, sm, good⟩ := q
        have fb : firstBad x 0 ws = none := firstBad_none fun j y hy => by
          rw [Nat.zero_add]
          refine good j y ?_ hy
          rcases Nat.lt_or_ge j ws.length with z | z
          · exact z
          · rw [List.getElem?_eq_none z] at hy
            cases hy
        have hp' := sm _ _ hp
        refine ⟨_, rfl, _, _, rfl, .inr ⟨_, SqT.of hp', rfl⟩, _, rfl, _, x, .int (numOf x), rfl, rfl, numbers_at T hb, .inl ⟨rfl, _, rfl, ?_⟩⟩
        refine ite2 (fun c2 => ?_) (fun c2 => ?_)
        · have ne : ¬ (ws.length : Int) = numOf x := fun z => by
            rw [z, decide_eq_true rfl] at c2
            cases c2
          have ek : unitOfR (.str x) ws = .count ws.length := by
            show (if isWord x = true then _ else _) = _
            rw [if_pos hb, fb]
            show (if (ws.length : Int) = numOf x then _ else _) = _
            rw [if_neg ne]
          rw [ek] at k
          exact ⟨_, rfl, _, _, rfl, .inr ⟨_, SqT.of hp', rfl⟩, rz_ok R_BadCount rfl (by decide) fun d H2 s2 ex => k _ d (sm.trans s2) ex⟩
        · have hl : (ws.length : Int) = numOf x := by
            by_cases z : (ws.length : Int) = numOf x
            · exact z
            · refine absurd ?_ c2
              rw [decide_eq_false (fun q => z (V.int.inj q))]
              rfl
          have ek : unitOfR (.str x) ws = .text (textOf x (ws.map intOf)) := by
            show (if isWord x = true then _ else _) = _
            rw [if_pos hb, fb]
            show (if (ws.length : Int) = numOf x then _ else _) = _
            rw [if_pos hl]
          rw [ek] at k
          have each : ∀ u, u ∈ ws → u = .int (intOf u) ∧ 0 ≤ intOf u ∧ intOf u ≤ 99 := fun u hu' => by
            obtain ⟨j, hj, rfl⟩ := List.getElem_of_mem hu'
            exact numV_int (good j _ hj (List.getElem?_eq_getElem hj))
          have em : (ws.map intOf).map V.int = ws := by
            rw [List.map_map]
            exact (List.map_congr_left fun u hu' => (each u hu').1.symm).trans (List.map_id _)
          have n2 : numOf x ≤ 2 := by
            unfold numOf
            split
            · decide
            · split <;> decide
          refine ⟨_, rfl, _, rfl, x, p, ws.map intOf, rfl, lx', .inl (SqT.of ?_), by rw [List.length_map]; omega, fun m hm => ?_, fun H2 s2 => k _ (sm.trans s2)⟩
          · rw [em]
            exact hp'
          · obtain ⟨u, hu', rfl⟩ := List.mem_map.mp hm
            exact (each u hu').2
    | _ => exact ⟨_, rfl, rz_ok R_BadUnit rfl (by decide) fun d H2 s2 ex => k _ d s2 ex⟩
  obtain ⟨F1, F2⟩ := starOk (p1 := "word") (pv := "numbers") F sc_unit_of StX.cxUp (fun _ _ _ _ _ _ _ => rfl) (fun _ _ _ _ _ _ _ _ _ => rfl) (fun _ _ _ _ _ _ _ => rfl) body
  have up : ∀ (v : V) (ws : List V) (H : Hp) (Q : VK) (E : XK), spUnitOf K (v :: ws) H Q E → ∀ p, H p = none → spUnitOfB K [v, .ref p] (upd H p (.tup ws)) Q E := by
    intro v ws H Q E hs p np
    obtain ⟨v', ws', e, kd, kds, few, lx, k⟩ := hs
    cases e
    have sT := same_new (o := .tup ws) np
    refine ⟨v, p, ws, rfl, upd_same, kd _ sT, fun u hu H' s' => kds u hu H' (sT.trans s'), few, lx, ?_⟩
    generalize unitOfR v ws = r at k ⊢
    cases r with
    | text z => exact fun H' s' => k H' (sT.trans s')
    | unit z => exact fun H' d s' => k H' d (sT.trans s')
    | count z => exact fun H' d s' => k H' d (sT.trans s')
  refine ⟨_, hg, F.kp, F1.imp fun vs H Q E hs => ?_, fun A outer s H u v Q E hr e0 r hs => F2 A outer s H u v Q E hr e0 r (up v [] H Q E hs)⟩
  obtain ⟨v, ws, rfl, a, b, few, rest⟩ := hs
  exact ⟨v, ws, rfl, by rw [sizeLine_eq]; omega, up v ws H Q E ⟨v, ws, rfl, a, b, few, rest⟩⟩
end
end L2.K32
set_option Elab.async false
set_option linter.all false
set_option maxRecDepth 100000
set_option maxHeartbeats 4000000
/-! Texts of numbers and of units. -/
namespace L2.K32
open PySem PySem.Spec PyProof.Rows L2.RV
theorem fold_ge : ∀ (cs : List Nat) (a : Nat), a * 10 ^ cs.length ≤ cs.foldl (fun acc c => acc * 10 + (c - 48)) a
  | [], a => by show a * 1 ≤ a; omega
  | c :: cs, a => by
    have z := fold_ge cs (a * 10 + (c - 48))
    show a * 10 ^ (cs.length + 1) ≤ cs.foldl _ (a * 10 + (c - 48))
    refine Nat.le_trans ?_ z
    rw [Nat.pow_succ, Nat.mul_comm (10 ^ cs.length) 10, ← Nat.mul_assoc]
    exact Nat.mul_le_mul_right _ (Nat.le_add_right _ _)
theorem two_digits : ∀ c d : Fin 10, c.val ≠ 0 → (toString (((c.val * 10 + d.val : Nat)) : Int) : Str) = ⟨#[48 + c.val, 48 + d.val]⟩ := by decide +kernel
theorem one_digit : ∀ c : Fin 10, (toString (((c.val : Nat)) : Int) : Str) = ⟨#[48 + c.val]⟩ := by decide +kernel
theorem str_list {t : Str} {cs : List Nat} (h : t.cps.toList = cs) : t = ⟨cs.toArray⟩ := by
  obtain ⟨a⟩ := t
  have h' : a.toList = cs := h
  rw [← h', Array.toArray_toList]
theorem digits_all {d : Str} (a : Txt.isascii d = true) (b : Txt.isdigit d = true) : ∀ c ∈ d.cps.toList, 48 ≤ c ∧ c ≤ 57 := fun c hc => by
  have a' : d.cps.all (fun c => decide (c < 128)) = true := a
  obtain ⟨_, b2⟩ := Bool.and_eq_true_iff.mp (show (decide (d.length > 0) && d.cps.all Unicode.isDigit) = true from b)
  have hc' : c ∈ d.cps := Array.mem_def.mpr hc
  have lt : c < 128 := of_decide_eq_true (Array.all_eq_true'.mp a' c hc')
  exact digit_code ⟨c, lt⟩ (Array.all_eq_true'.mp b2 c hc')
/-- a whole number's text without a sign -/
theorem whole_plain {t : Str} (h : wholeText t = true) (p : Txt.startswith t "-" = false) : (∀ c ∈ t.cps.toList, 48 ≤ c ∧ c ≤ 57) ∧ t.cps.toList ≠ [] ∧ (t = "0" ∨ ∀ c cs, t.cps.toList = c :: cs → c ≠ 48) := by
  have dt : digitsOf t = t := by unfold digitsOf; rw [if_neg (by rw [p]; decide)]
  unfold wholeText at h
  rw [dt] at h
  cases a : Txt.isascii t with
  | false => rw [a] at h; cases h
  | true =>
    cases b : Txt.isdigit t with
    | false => rw [a, b] at h; cases h
    | true =>
      rw [a, b] at h
      refine ⟨digits_all a b, fun z => ?_, ?_⟩
      · obtain ⟨b1, _⟩ := Bool.and_eq_true_iff.mp (show (decide (t.length > 0) && t.cps.all Unicode.isDigit) = true from b)
        have pos : 0 < t.length := of_decide_eq_true b1
        have e : t.cps.toList.length = t.length := Array.length_toList
        rw [z] at e
        have e' : 0 = t.length := e
        omega
      · have h' : (decide (t = "0") || !Txt.startswith t "0") = true := h
        rcases Bool.or_eq_true_iff.mp h' with z | z
        · exact .inl (of_decide_eq_true z)
        · refine .inr fun c cs e n => ?_
          rw [starts1 e (k := 48) rfl, n] at z
          cases z
theorem whole_small {t : Str} (h : wholeText t = true) (p : Txt.startswith t "-" = false) (g : wholeNum t ≤ 99) : t = toString (wholeNum t) ∧ 0 ≤ wholeNum t := by
  obtain ⟨all, ne, lead⟩ := whole_plain h p
  have dt : digitsOf t = t := by unfold digitsOf; rw [if_neg (by rw [p]; decide)]
  have en : wholeNum t = ((NumText.digitsVal t.cps.toList : Nat) : Int) := by
    unfold wholeNum
    rw [if_neg (by rw [p]; decide), dt]
  rw [en] at g ⊢
  refine ⟨?_, Int.natCast_nonneg _⟩
  have g' : NumText.digitsVal t.cps.toList ≤ 99 := by omega
  cases hl : t.cps.toList with
  | nil => exact absurd hl ne
  | cons c cs =>
    rw [hl] at all g'
    have rc := all c List.mem_cons_self
    have e5 : NumText.digitsVal (c :: cs) = cs.foldl (fun acc c => acc * 10 + (c - 48)) (0 * 10 + (c - 48)) := rfl
    cases cs with
    | nil =>
      have o := one_digit ⟨c - 48, by omega⟩
      have e6 : NumText.digitsVal [c] = c - 48 := by rw [e5]; show 0 * 10 + (c - 48) = _; omega
      rw [e6]
      rw [str_list hl]
      have e7 : 48 + (c - 48) = c := by omega
      rw [o]
      show (⟨#[c]⟩ : Str) = ⟨#[48 + (c - 48)]⟩
      rw [e7]
    | cons d ds =>
      have c48 : c ≠ 48 := by
        rcases lead with z | z
        · rw [z] at hl
          have z' : ([48] : List Nat) = c :: d :: ds := hl
          cases z'
        · exact z c _ hl
      have rd := all d (by simp)
      cases ds with
      | nil =>
        have o := two_digits ⟨c - 48, by omega⟩ ⟨d - 48, by omega⟩ (by show c - 48 ≠ 0; omega)
        have e6 : NumText.digitsVal [c, d] = (c - 48) * 10 + (d - 48) := by rw [e5]; show (0 * 10 + (c - 48)) * 10 + (d - 48) = _; omega
        rw [e6, o, str_list hl]
        have e7 : 48 + (c - 48) = c := by omega
        have e8 : 48 + (d - 48) = d := by omega
        show (⟨#[c, d]⟩ : Str) = ⟨#[48 + (c - 48), 48 + (d - 48)]⟩
        rw [e7, e8]
      | cons e es =>
        exfalso
        have ge := fold_ge (d :: e :: es) (0 * 10 + (c - 48))
        rw [← e5] at ge
        have : 1 * 10 ^ 2 ≤ (0 * 10 + (c - 48)) * 10 ^ (d :: e :: es).length := Nat.mul_le_mul (by omega) (Nat.pow_le_pow_right (by decide) (by show 2 ≤ es.length + 2; omega))
        have h100 : (1 : Nat) * 10 ^ 2 = 100 := by decide
        rw [h100] at this
        have := Nat.le_trans this ge
        omega
/-- a word and numbers that make a unit -/
structure Parts (y : Str) (ns : List Int) : Prop where
  word : isWord y = true
  many : (ns.length : Int) = numOf y
  each : ∀ (j : Nat) (n : Int), ns[j]? = some n → numV y j (.int n) = true
theorem num99 : ∀ k : Fin 100, wholeText (toString ((k.val : Nat) : Int)) = true ∧ wholeNum (toString ((k.val : Nat) : Int)) = ((k.val : Nat) : Int) ∧ (32 : Nat) ∉ TL.tl (toString ((k.val : Nat) : Int)) := by decide +kernel
theorem num_text {n : Int} (h0 : 0 ≤ n) (h1 : n ≤ 99) : wholeText (toString n) = true ∧ wholeNum (toString n) = n ∧ (32 : Nat) ∉ TL.tl (toString n) := by
  obtain ⟨m, rfl⟩ := Int.eq_ofNat_of_zero_le h0
  exact num99 ⟨m, by omega⟩
theorem word6 {y : Str} (h : isWord y = true) : y = "journal" ∨ y = "block" ∨ y = "page" ∨ y = "cell" ∨ y = "bucket" ∨ y = "parity" := by
  obtain ⟨z, hz, e⟩ := List.any_eq_true.mp h
  have e' : z = y := LawfulBEq.eq_of_beq e
  subst e'
  simpa [units6] using hz
theorem word_text {y : Str} (h : isWord y = true) : y.length ≤ 7 ∧ (32 : Nat) ∉ TL.tl y := by
  rcases word6 h with rfl | rfl | rfl | rfl | rfl | rfl <;> decide +kernel
theorem numOf_le (y : Str) : 0 ≤ numOf y ∧ numOf y ≤ 2 := by
  unfold numOf
  split
  · decide
  · split <;> decide
theorem Parts.rng {y : Str} {ns : List Int} (p : Parts y ns) : ∀ n, n ∈ ns → 0 ≤ n ∧ n ≤ 99 := fun n hn => by
  obtain ⟨j, hj, rfl⟩ := List.getElem_of_mem hn
  exact (numV_int (p.each j _ (List.getElem?_eq_getElem hj))).2
theorem Parts.few {y : Str} {ns : List Int} (p : Parts y ns) : ns.length ≤ 2 := by
  have := numOf_le y
  have := p.many
  omega
theorem Parts.split {y : Str} {ns : List Int} (p : Parts y ns) : Txt.split (textOf y ns) " " = y :: ns.map fun n => (toString n : Str) := by
  unfold textOf
  refine TL.split_join (y := " ") (s := 32) (S := []) (by decide +kernel) (by decide +kernel) (by simp) fun q hq => ?_
  rcases List.mem_cons.mp hq with rfl | hq
  · exact (word_text p.word).2
  · obtain ⟨n, hn, rfl⟩ := List.mem_map.mp hq
    exact (num_text (p.rng n hn).1 (p.rng n hn).2).2.2
theorem Parts.unit {y : Str} {ns : List Int} (p : Parts y ns) : unitW y (ns.map fun n => (toString n : Str)) = true := by
  unfold unitW
  rw [if_pos p.word, List.length_map, if_pos (decide_eq_true p.many)]
  have a : (ns.map fun n => (toString n : Str)).all wholeText = true := List.all_eq_true.mpr fun q hq => by
    obtain ⟨n, hn, rfl⟩ := List.mem_map.mp hq
    exact (num_text (p.rng n hn).1 (p.rng n hn).2).1
  rw [if_pos a]
  refine List.all_eq_true.mpr fun q hq => ?_
  obtain ⟨j, hj, e⟩ := List.getElem_of_mem hq
  rw [List.getElem_zipIdx] at e
  subst e
  rw [List.length_zipIdx, List.length_map] at hj
  have z := p.each j ns[j] (List.getElem?_eq_getElem hj)
  have r := p.rng _ (List.getElem_mem hj)
  show from_ (if y = "cell" ∧ ((0 + j : Nat) : Int) = 0 then 1 else 0) 99 (.int (wholeNum ((ns.map fun n => (toString n : Str))[j]'_))) = true
  rw [List.getElem_map, (num_text r.1 r.2).2.1, Nat.zero_add]
  exact z
theorem Parts.unitV {y : Str} {ns : List Int} (p : Parts y ns) : unitV (.str (textOf y ns)) = true := by
  show unitL (Txt.split (textOf y ns) " ") = true
  rw [p.split]
  exact p.unit
/-- a unit's text is that of its parts -/
theorem unit_parts_of {x y : Str} {ts : List Str} (lx : x.length ≤ 50) (e : Txt.split x " " = y :: ts) (h : unitW y ts = true) : Parts y (ts.map wholeNum) ∧ ts = (ts.map wholeNum).map (fun n => (toString n : Str)) ∧ x = textOf y (ts.map wholeNum) := by
  unfold unitW at h
  split at h
  · split at h
    · split at h
      · rename_i c1 c2 c3
        have short : ∀ t, t ∈ ts → t.length ≤ 50 := fun t ht => Nat.le_trans (split_short (x := x) (by rw [e]; exact List.mem_cons_of_mem _ ht)) lx
        have each : ∀ (i : Nat) (hi : i < ts.length), wholeText ts[i] = true ∧ numB y i ts[i] = true := fun i hi => by
          have mz : (ts[i], i) ∈ ts.zipIdx := by
            rw [List.mem_iff_getElem]
            exact ⟨i, by rw [List.length_zipIdx]; exact hi, by rw [List.getElem_zipIdx, Nat.zero_add]⟩
          exact ⟨List.all_eq_true.mp c3 _ (List.getElem_mem hi), List.all_eq_true.mp h _ mz⟩
        have back : ts = (ts.map wholeNum).map (fun n => (toString n : Str)) := by
          rw [List.map_map]
          refine (List.map_id _).symm.trans (List.map_congr_left fun t ht => ?_)
          obtain ⟨i, hi, rfl⟩ := List.getElem_of_mem ht
          obtain ⟨a, b⟩ := each i hi
          have pl := num_plain a (short _ ht) b
          have le : wholeNum ts[i] ≤ 99 := (numV_int (x := y) (i := i) (u := .int (wholeNum ts[i])) b).2.2
          exact (whole_small a pl le).1
        refine ⟨⟨c1, by rw [List.length_map]; exact of_decide_eq_true c2, fun j n hn => ?_⟩, back, ?_⟩
        · rw [List.getElem?_map] at hn
          obtain ⟨t, ht, rfl⟩ := Option.map_eq_some_iff.mp hn
          have lt : j < ts.length := by
            rcases Nat.lt_or_ge j ts.length with z | z
            · exact z
            · rw [List.getElem?_eq_none z] at ht
              cases ht
          rw [List.getElem?_eq_getElem lt] at ht
          cases ht
          exact (each j lt).2
        · unfold textOf
          rw [← back, ← e]
          exact (TL.join_eq _ _).symm ▸ (StrLaws.join_split x " ").symm
      · cases h
    · cases h
  · cases h
end L2.K32
set_option Elab.async false
set_option linter.all false
set_option maxRecDepth 100000
set_option maxHeartbeats 4000000
/-! The rank of a unit. -/
namespace L2.K32
open PySem PySem.Spec PyProof.Rows L2.RV
theorem pass_E0 {X : Cx} : Passes (L2.CX X.prog X.w) X E0 := fun pins σ H s e s' I h => by
  obtain ⟨a, B, H', cls, d, ea, fl, hok, ub, na, os, ag, he⟩ := h
  exact he.elim
def wordIx (x : Str) : Nat := units6.findIdx fun y => y == x
/-- the first two of the numbers, 0 where there is none -/
def firstOf (ns : List Int) : Int := ns.getD 0 0
def secondOf (ns : List Int) : Int := ns.getD 1 0
def rankOf (x : Str) (ns : List Int) : Int := ((wordIx x : Int) * 100 + firstOf ns) * 100 + secondOf ns
/-- rank(word, numbers) -/
def spRank (K : PySem.W.Frag) : Sp := fun vs H Q _ => ∃ (x : Str) (p : Addr) (ns : List Int), vs = [.str x, .ref p] ∧ isWord x = true ∧ Sq K H p (ns.map V.int) ∧ ns.length ≤ 2 ∧ ∀ H', Same H H' → Q (.int (rankOf x ns)) H'
/-- rank_of(unit), of a unit -/
def spRankOf (K : PySem.W.Frag) : Sp := fun vs H Q _ => ∃ (y : Str) (ns : List Int), vs = [.str (textOf y ns)] ∧ Parts y ns ∧ ∀ H', Same H H' → Q (.int (rankOf y ns)) H'
theorem Parts.len {y : Str} {ns : List Int} (p : Parts y ns) : (textOf y ns).length ≤ 50 := by
  have e : (textOf y ns).length ≤ y.length + 3 * ns.length := by
    unfold textOf
    have f := p.few
    match ns, f, p.rng with
    | [], _, _ =>
      show (Txt.join " " [y]).length ≤ _
      rw [TL.join_eq]
      exact Nat.le_add_right _ _
    | [a], _, r =>
      have := (small99 (r a (by simp)).1 (r a (by simp)).2).2
      rw [TL.join_eq, TL.len_tl, TL.tl_join]
      show (TL.tl y ++ (TL.tl " " ++ TL.tl (toString a : Str))).length ≤ _
      rw [List.length_append, List.length_append, ← TL.len_tl, ← TL.len_tl]
      show y.length + (1 + (toString a : Str).length) ≤ y.length + 3 * 1
      omega
    | [a, b], _, r =>
      have := (small99 (r a (by simp)).1 (r a (by simp)).2).2
      have := (small99 (r b (by simp)).1 (r b (by simp)).2).2
      rw [TL.join_eq, TL.len_tl, TL.tl_join]
      show (TL.tl y ++ (TL.tl " " ++ (TL.tl (toString a : Str) ++ (TL.tl " " ++ TL.tl (toString b : Str))))).length ≤ _
      rw [List.length_append, List.length_append, List.length_append, List.length_append, ← TL.len_tl, ← TL.len_tl, ← TL.len_tl]
      show y.length + (1 + ((toString a : Str).length + (1 + (toString b : Str).length))) ≤ y.length + 3 * 2
      omega
  have := (word_text p.word).1
  have := p.few
  omega
section
variable {P : Program} {w : World} {K : PySem.W.Frag} {mg : Str → Option Value} {h base : Heap} {fd : FuncData}
theorem ok_rank_of (D_unit_parts : DefX (L2.CX P w) P w K mg base "unit_parts" 5 ["unit"] (spParts K)) (D_rank : Def P w K mg base "rank" 2 ["word", "numbers"] (spRank K)) (F : Fn K "rank_of" s_rank_of fd) : FnOk P w K mg base CX0 6 (He.ga K "rank_of") fd ["unit"] (spRankOf K) := by
  refine F.ok sc_rank_of (fun vs H Q E h => ?_) (fun cdv A outer s H vs Q E hr h => ?_)
  · obtain ⟨y, ns, rfl, _⟩ := h
    rfl
  · obtain ⟨y, ns, rfl, pa, k⟩ := h
    have hu := hr.units
    refine ⟨_, PSs.nox (pss_cons (ps_asg (pe_callX D_unit_parts (hr.mono (by decide)) rfl pass_E0 (pa_cons (pv 0) pa_nil)) (pg_tup rfl (pgs_cons (pg_name (i := 1) sc_rank_of.nd rfl (by first | exact Or.inl rfl | exact Or.inr rfl)) (pgs_cons (pg_name (i := 2) sc_rank_of.nd rfl (by first | exact Or.inl rfl | exact Or.inr rfl)) pgs_nil))))
      (pss_one (ps_ret (pe_callD D_rank (hr.mono (by decide)) rfl (pa_cons (pv 1) (pa_cons (pv 2) pa_nil)))))), ?_⟩
    refine ⟨_, rfl, _, rfl, kinds_str _, fun x e => by cases e; exact pa.len, fun x y' ts H' q q2 e sp un s1 h2 h1 => ?_, fun un => ?_⟩
    · cases e
      rw [pa.split] at sp
      cases sp
      have e : (ns.map fun n => (toString n : Str)).map (fun t => V.int (wholeNum t)) = ns.map V.int := by
        rw [List.map_map]
        exact List.map_congr_left fun n hn => by
          show V.int (wholeNum (toString n)) = V.int n
          rw [(num_text (pa.rng n hn).1 (pa.rng n hn).2).2.1]
      rw [e] at h2
      exact ⟨q, _, rfl, SqT.of h1, rfl, _, _, rfl, _, _, rfl, rfl, _, rfl, _, rfl, y, q2, ns, rfl, pa.word, .inl (SqT.of h2), pa.few, fun H2 s2 => k _ (s1.trans s2)⟩
    · rw [pa.unitV] at un
      cases un
end
end L2.K32
set_option Elab.async false
set_option linter.all false
set_option maxRecDepth 100000
set_option maxHeartbeats 4000000
/-! What the order of units is. -/
namespace L2.RV
open PySem PySem.Spec PyProof.Rows
/-- a dict comprehension over any walk -/
theorem dc_it {J : It} {n : Nat} {G : Hp → Prop} {Y : Nat → Hp → V → Hp → Prop} (w : Walk J n G Y) {g : TG} {tt : TT} {tk tv : TE} {vs : List Nat} {σ : L2.St} {H1 : Hp} {D : Addr} {Q : VK} (Pv : Nat → Hp → Prop) (h0 : Pv 0 (upd H1 D (.dK []))) (hG : ∀ i H, i ≤ n → Pv i H → G H)
    (hs : ∀ i x H H', i < n → Pv i H → Y i H x H' → g x (wipe σ vs) H' fun σ2 H2 => wipe σ2 vs = wipe σ vs ∧ tt σ2 H2 fun b H3 =>
      if b = true then tk σ2 H3 fun y H4 => tv σ2 H4 fun z H5 => ∃ kvs k, y = kV k ∧ H5 D = some (.dK kvs) ∧ kvs.length < sizeLine ∧ Pv (i + 1) (upd H5 D (.dK (putK kvs k z))) else Pv (i + 1) H3) (hd : ∀ H, Pv n H → Q (.ref D) H) :
    ∃ W : Nat → Nat → Hp → Prop, (∃ m, W 0 m (upd H1 D (.dK []))) ∧ ∀ i m H, W i m H →
      (J.stop i H ∧ Q (.ref D) H) ∨ (J.go i H ∧ ∃ Nx : Hp → Prop, (∀ H', Nx H' → ∃ m', m' < m ∧ W (i + 1) m' H') ∧ ∀ x H', J.yld i H x H' → g x (wipe σ vs) H' fun σ2 H2 => wipe σ2 vs = wipe σ vs ∧ tt σ2 H2 fun b H3 =>
        if b = true then tk σ2 H3 fun y H4 => tv σ2 H4 fun z H5 => ∃ kvs k, y = kV k ∧ H5 D = some (.dK kvs) ∧ kvs.length < sizeLine ∧ Nx (upd H5 D (.dK (putK kvs k z))) else Nx H3) := by
  refine ⟨fun i m H => m = n - i ∧ i ≤ n ∧ Pv i H, ⟨n, by simp, Nat.zero_le _, h0⟩, ?_⟩
  rintro i m H ⟨rfl, hi, p⟩
  have q := hG i H hi p
  by_cases hlt : i < n
  · exact .inr ⟨w.goes i H hlt q, Pv (i + 1), fun H' p' => ⟨n - (i + 1), by omega, rfl, hlt, p'⟩, fun x H' y => hs i x H H' hlt p (w.yields i H x H' hlt q y)⟩
  · have e : i = n := by omega
    subst e
    exact .inl ⟨w.stops H q, hd H p⟩
theorem keys_put (kvs : List (Key × V)) (k : Key) (v : V) : (putK kvs k v).map (·.1) = if (valV kvs k).isSome = true then kvs.map (·.1) else kvs.map (·.1) ++ [k] := by
  unfold putK
  rw [valV_any]
  split
  · rw [List.map_map]
    refine List.map_congr_left fun kv _ => ?_
    show (if kv.1 = k then (kv.1, v) else kv).1 = kv.1
    split <;> rfl
  · rw [List.map_append]
    rfl
theorem mem_keys {kvs : List (Key × V)} {k : Key} : k ∈ kvs.map (·.1) ↔ (valV kvs k).isSome = true := by
  rw [← valV_any, List.any_eq_true, List.mem_map]
  constructor
  · rintro ⟨kv, m, e⟩
    exact ⟨kv, m, decide_eq_true e⟩
  · rintro ⟨kv, m, e⟩
    exact ⟨kv, m, of_decide_eq_true e⟩
theorem nodup_put {kvs : List (Key × V)} {k : Key} {v : V} (h : (kvs.map (·.1)).Nodup) : ((putK kvs k v).map (·.1)).Nodup := by
  rw [keys_put]
  split
  · exact h
  · rename_i c
    rw [← mem_keys] at c
    refine List.nodup_append.mpr ⟨h, by simp, fun a ha b hb e => ?_⟩
    rw [List.mem_singleton] at hb
    subst hb e
    exact c ha
end L2.RV
namespace L2.K32
open PySem PySem.Spec PyProof.Rows L2.RV
def rankU (x : Str) : Int := match Txt.split x " " with
  | y :: ts => rankOf y (ts.map wholeNum)
  | [] => 0
theorem Parts.rankU {y : Str} {ns : List Int} (p : Parts y ns) : rankU (textOf y ns) = rankOf y ns := by
  show (match Txt.split (textOf y ns) " " with | y :: ts => rankOf y (ts.map wholeNum) | [] => 0) = _
  rw [p.split]
  show rankOf y ((ns.map fun n => (toString n : Str)).map wholeNum) = _
  congr 1
  rw [List.map_map]
  exact (List.map_congr_left fun n hn => (num_text (p.rng n hn).1 (p.rng n hn).2).2.1).trans (List.map_id _)
theorem Parts.two {y : Str} {ns : List Int} (p : Parts y ns) : 0 ≤ firstOf ns ∧ firstOf ns ≤ 99 ∧ 0 ≤ secondOf ns ∧ secondOf ns ≤ 99 := by
  have f := p.few
  match ns, f, p.rng with
  | [], _, _ => exact ⟨by decide, by decide, by decide, by decide⟩
  | [a], _, r => exact ⟨(r a (by simp)).1, (r a (by simp)).2, Int.le_refl 0, (by decide : (0 : Int) ≤ 99)⟩
  | [a, b], _, r => exact ⟨(r a (by simp)).1, (r a (by simp)).2, (r b (by simp)).1, (r b (by simp)).2⟩
theorem wordIx_inj {x y : Str} (hx : isWord x = true) (hy : isWord y = true) (h : wordIx x = wordIx y) : x = y := by
  rcases word6 hx with rfl | rfl | rfl | rfl | rfl | rfl <;> rcases word6 hy with rfl | rfl | rfl | rfl | rfl | rfl <;> first | rfl | exact absurd h (by decide +kernel)
theorem rank_inj {y y' : Str} {ns ns' : List Int} (p : Parts y ns) (p' : Parts y' ns') (h : rankOf y ns = rankOf y' ns') : textOf y ns = textOf y' ns' := by
  have a := p.two
  have b := p'.two
  unfold rankOf at h
  have hw : wordIx y = wordIx y' := by omega
  have hf : firstOf ns = firstOf ns' := by omega
  have hs : secondOf ns = secondOf ns' := by omega
  have ey := wordIx_inj p.word p'.word hw
  subst ey
  have hl : ns.length = ns'.length := by
    have := p.many
    have := p'.many
    omega
  have en : ns = ns' := by
    have f := p.few
    match ns, ns', hl, f, hf, hs with
    | [], [], _, _, _, _ => rfl
    | [a], [b], _, _, hf, _ =>
      have e : a = b := hf
      rw [e]
    | [a, c], [b, d], _, _, hf, hs =>
      have e : a = b := hf
      have e2 : c = d := hs
      rw [e, e2]
  rw [en]
/-- the units among values, each once, by their ranks -/
structure IsOrd (L : List Str) (xs : List V) : Prop where
  inc : L.Pairwise fun a b => rankU a < rankU b
  mem : ∀ x, x ∈ L ↔ V.str x ∈ xs
  few : L.length ≤ xs.length
theorem ord_unique : ∀ {L M : List Str}, L.Pairwise (fun a b => rankU a < rankU b) → M.Pairwise (fun a b => rankU a < rankU b) → (∀ x, x ∈ L ↔ x ∈ M) → L = M
  | [], [], _, _, _ => rfl
  | [], y :: M, _, _, h => by cases (h y).mpr List.mem_cons_self
  | x :: L, [], _, _, h => by cases (h x).mp List.mem_cons_self
  | x :: L, y :: M, hL, hM, h => by
    obtain ⟨xl, pl⟩ := List.pairwise_cons.mp hL
    obtain ⟨ym, pm⟩ := List.pairwise_cons.mp hM
    have exy : x = y := by
      rcases List.mem_cons.mp ((h x).mp List.mem_cons_self) with e | m
      · exact e
      · rcases List.mem_cons.mp ((h y).mpr List.mem_cons_self) with e | m'
        · exact e.symm
        · have := ym x m
          have := xl y m'
          omega
    subst exy
    refine congrArg _ (ord_unique pl pm fun z => ⟨fun hz => ?_, fun hz => ?_⟩)
    · rcases List.mem_cons.mp ((h z).mp (List.mem_cons_of_mem _ hz)) with e | m
      · subst e
        have := xl z hz
        omega
      · exact m
    · rcases List.mem_cons.mp ((h z).mpr (List.mem_cons_of_mem _ hz)) with e | m
      · subst e
        have := ym z hz
        omega
      · exact m
theorem IsOrd.unique {L M : List Str} {xs : List V} (a : IsOrd L xs) (b : IsOrd M xs) : L = M := ord_unique a.inc b.inc fun x => (a.mem x).trans (b.mem x).symm
abbrev kI (r : Int) : Key := .inl r
/-- what a dict of units by their ranks holds, made of the first n of the values -/
structure RkInv (xs : List V) (n : Nat) (kvs : List (Key × V)) : Prop where
  nd : (kvs.map (·.1)).Nodup
  val : ∀ k v, valV kvs k = some v ↔ ∃ j y ns, j < n ∧ xs[j]? = some (V.str (textOf y ns)) ∧ Parts y ns ∧ k = kI (rankOf y ns) ∧ v = .str (textOf y ns)
theorem RkInv.zero {xs : List V} : RkInv xs 0 [] := ⟨List.nodup_nil, fun k v => ⟨fun z => (by cases z), fun ⟨j, _, _, hj, _⟩ => absurd hj (Nat.not_lt_zero _)⟩⟩
theorem RkInv.step {xs : List V} {n : Nat} {kvs : List (Key × V)} {y : Str} {ns : List Int} (i : RkInv xs n kvs) (p : Parts y ns) (e : xs[n]? = some (V.str (textOf y ns))) : RkInv xs (n + 1) (putK kvs (kI (rankOf y ns)) (.str (textOf y ns))) := by
  refine ⟨nodup_put i.nd, fun k v => ?_⟩
  rw [valV_put]
  split
  · rename_i hk
    subst hk
    constructor
    · intro z
      cases z
      exact ⟨n, y, ns, Nat.lt_succ_self _, e, p, rfl, rfl⟩
    · rintro ⟨j, y', ns', hj, ej, p', ek, rfl⟩
      have := rank_inj p p' (Sum.inl.inj ek)
      rw [this]
  · rename_i hk
    rw [i.val k v]
    constructor
    · rintro ⟨j, y', ns', hj, r⟩
      exact ⟨j, y', ns', Nat.lt_succ_of_lt hj, r⟩
    · rintro ⟨j, y', ns', hj, ej, p', ek, ev⟩
      refine ⟨j, y', ns', ?_, ej, p', ek, ev⟩
      rcases Nat.lt_or_ge j n with z | z
      · exact z
      · obtain rfl : j = n := by omega
        rw [e] at ej
        have : textOf y ns = textOf y' ns' := V.str.inj (Option.some.inj ej)
        have r1 := p.rankU
        rw [this, p'.rankU] at r1
        rw [← r1] at hk
        exact absurd ek hk
def strAt (kvs : List (Key × V)) (r : Int) : Str := match valV kvs (kI r) with
  | some (.str x) => x
  | _ => Str.empty
theorem RkInv.ord {xs : List V} {kvs : List (Key × V)} {rs rs' : List Int} (i : RkInv xs xs.length kvs) (all : ∀ u, u ∈ xs → ∃ y ns, Parts y ns ∧ u = .str (textOf y ns)) (ek : kvs.map (·.1) = rs.map kI) (perm : rs'.Perm rs) (srt : rs'.Pairwise (· ≤ ·)) (hlen : kvs.length ≤ xs.length) :
    (∀ r, r ∈ rs' → valV kvs (kI r) = some (.str (strAt kvs r))) ∧ IsOrd (rs'.map (strAt kvs)) xs := by
  have memk : ∀ r, r ∈ rs' → ∃ j y ns, j < xs.length ∧ xs[j]? = some (V.str (textOf y ns)) ∧ Parts y ns ∧ r = rankOf y ns ∧ valV kvs (kI r) = some (.str (textOf y ns)) := fun r hr => by
    have m : kI r ∈ kvs.map (·.1) := by
      rw [ek]
      exact List.mem_map.mpr ⟨r, perm.mem_iff.mp hr, rfl⟩
    rw [mem_keys] at m
    obtain ⟨v, hv⟩ := Option.isSome_iff_exists.mp m
    obtain ⟨j, y, ns, hj, ej, p, e1, rfl⟩ := (i.val _ _).mp hv
    exact ⟨j, y, ns, hj, ej, p, Sum.inl.inj e1, hv⟩
  have at_ : ∀ r, r ∈ rs' → valV kvs (kI r) = some (.str (strAt kvs r)) ∧ rankU (strAt kvs r) = r := fun r hr => by
    obtain ⟨j, y, ns, hj, ej, p, rfl, hv⟩ := memk r hr
    have es : strAt kvs (rankOf y ns) = textOf y ns := by
      unfold strAt
      rw [hv]
    rw [es]
    exact ⟨hv, p.rankU⟩
  refine ⟨fun r hr => (at_ r hr).1, ?_, fun x => ?_, ?_⟩
  · rw [List.pairwise_map]
    have nd : rs'.Nodup := by
      refine perm.symm.nodup ?_
      have := i.nd
      rw [ek] at this
      exact List.Pairwise.of_map kI (fun a b h e => h (congrArg _ e)) this
    refine List.Pairwise.imp_of_mem (fun {a b} ha hb r => ?_) (srt.and nd)
    rw [(at_ a ha).2, (at_ b hb).2]
    have r1 := r.1
    have r2 := r.2
    omega
  · rw [List.mem_map]
    constructor
    · rintro ⟨r, hr, rfl⟩
      obtain ⟨j, y, ns, hj, ej, p, e1, hv⟩ := memk r hr
      have h2 := (at_ r hr).1
      rw [hv] at h2
      rw [← V.str.inj (Option.some.inj h2)]
      exact List.mem_of_getElem? ej
    · intro hx
      obtain ⟨y, ns, p, e⟩ := all _ hx
      have ex : x = textOf y ns := V.str.inj e
      subst ex
      obtain ⟨j, hj, ej⟩ := List.getElem_of_mem hx
      have hv := (i.val (kI (rankOf y ns)) (.str (textOf y ns))).mpr ⟨j, y, ns, hj, by rw [List.getElem?_eq_getElem hj, ej], p, rfl, rfl⟩
      have m : kI (rankOf y ns) ∈ kvs.map (·.1) := mem_keys.mpr (by rw [hv]; rfl)
      rw [ek] at m
      obtain ⟨r, hr, er⟩ := List.mem_map.mp m
      have er' : r = rankOf y ns := Sum.inl.inj er
      subst er'
      have hr' := perm.mem_iff.mpr hr
      refine ⟨_, hr', ?_⟩
      have h2 := (at_ _ hr').1
      rw [hv] at h2
      exact (V.str.inj (Option.some.inj h2)).symm
  · have z := congrArg List.length ek
    rw [List.length_map, List.length_map] at z
    rw [List.length_map, perm.length_eq]
    omega
end L2.K32
set_option Elab.async false
set_option linter.all false
set_option maxRecDepth 100000
set_option maxHeartbeats 4000000
/-! Units in order. -/
namespace L2.K32
open PySem PySem.Spec PyProof.Rows L2.RV
def tIntI (t : TA) : TE := tCB (fun xs H Q => (∃ i, xs = [.int i] ∧ Q (.int i) H) ∨ ∃ k, xs = [.bl k] ∧ Q (.int (if k then 1 else 0)) H) t
/-- whether the value is a list or a tuple -/
def SeqK (K : PySem.W.Frag) (H : Hp) (v : V) (b : Bool) : Prop := ∃ n, TyX K H v (.type n) ∧ PySem.W.kitAny K (.type n) [.type "list", .type "tuple"] = some b
/-- the first value that is no unit -/
def firstNo (xs : List V) : Option V := xs.find? fun u => !unitV u
/-- in_order(units), of a list or a tuple -/
def OrdOk (K : PySem.W.Frag) (H : Hp) (Q : VK) (E : XK) (xs : List V) : Prop := match firstNo xs with
  | some u => ∀ H' d, Same H H' → ErrX H' d [("value", u)] → E (.ref (ca K 2)) (some d) H'
  | none => ∀ L H' q, IsOrd L xs → Same H H' → H' q = some (.tup (L.map V.str)) → Q (.ref q) H'
/-- a list or a tuple of values, few and short -/
structure SeqV (K : PySem.W.Frag) (H : Hp) (p : Addr) (xs : List V) : Prop where
  sq : Sq K H p xs
  sk : ∀ H', Same H H' → SeqK K H' (.ref p) true
  few : xs.length ≤ 60
  kd : ∀ u, u ∈ xs → ∀ H', Same H H' → Kinds K H' u
  short : ∀ x, V.str x ∈ xs → x.length ≤ 50
def spInOrder (K : PySem.W.Frag) : Sp := fun vs H Q E => ∃ v, vs = [v] ∧ ((∃ p xs, v = .ref p ∧ SeqV K H p xs ∧ OrdOk K H Q E xs) ∨ (∀ H', Same H H' → SeqK K H' v false) ∧ ∀ H' d, Same H H' → ErrX H' d [("value", .non)] → E (.ref (ca K 2)) (some d) H')
theorem firstNo_at {xs : List V} {n : Nat} {u : V} (h : ∀ j y, j < n → xs[j]? = some y → unitV y = true) (e : xs[n]? = some u) (b : unitV u = false) : firstNo xs = some u := by
  induction xs generalizing n with
  | nil => cases e
  | cons x xs ih =>
    cases n with
    | zero =>
      cases e
      show List.find? _ (u :: xs) = some u
      rw [List.find?_cons_of_pos (by rw [b]; rfl)]
    | succ n =>
      have hx := h 0 x (Nat.zero_lt_succ _) rfl
      show List.find? _ (x :: xs) = some u
      rw [List.find?_cons_of_neg (by rw [hx]; decide)]
      exact ih (fun j y hj hy => h (j + 1) y (by omega) hy) e
theorem firstNo_none {xs : List V} (h : ∀ u, u ∈ xs → unitV u = true) : firstNo xs = none := by
  show List.find? _ xs = none
  rw [List.find?_eq_none]
  intro u hu
  rw [h u hu]
  decide
theorem unit_shape {u : V} (h : unitV u = true) (lx : ∀ x, u = .str x → x.length ≤ 50) : ∃ y ns, Parts y ns ∧ u = .str (textOf y ns) := by
  cases u with
  | str x =>
    obtain ⟨y, ts, e⟩ := split_some x
    have hw : unitW y ts = true := by
      have z : unitL (Txt.split x " ") = true := h
      rw [e] at z
      exact z
    obtain ⟨p, _, ex⟩ := unit_parts_of (lx x rfl) e hw
    exact ⟨y, _, p, by rw [← ex]⟩
  | _ => cases h
/-- {rank_of(unit): unit for unit in units} -/
theorem ranked_ok {K : PySem.W.Frag} {σ : L2.St} {H : Hp} {Q : VK} {p : Addr} {xs : List V} (v0 : σ[0]? = some (some (.ref p))) (l1 : 1 < σ.length) (sq : Sq K H p xs) (few : xs.length ≤ 60) (all : ∀ u, u ∈ xs → ∃ y ns, Parts y ns ∧ u = .str (textOf y ns))
    (k : ∀ H' D kvs, Same H H' → H' D = some (.dK kvs) → kvs.length ≤ xs.length → RkInv xs xs.length kvs → Q (.ref D) H') :
    tDc (iSq K (tVar 0)) (gName 1) tYes (tCall (spRankOf K) [] E0 (tCons (tVar 1) tNil)) (tVar 1) [1] σ H Q := by
  refine ⟨_, v0, p, xs, rfl, sq, fun J wk D nD => ?_⟩
  refine dc_it wk (fun n H' => Same H H' ∧ ∃ kvs, H' D = some (.dK kvs) ∧ kvs.length ≤ n ∧ RkInv xs n kvs) ⟨same_new nD, [], upd_same, Nat.le_refl _, .zero⟩ (fun n H' _ q => SqKeep.of_same q.1) (fun n x H' H2 hn q y => ?_) (fun H' q => ?_)
  · obtain ⟨rfl, hx⟩ := y
    obtain ⟨s1, kvs, hD, hl, inv⟩ := q
    obtain ⟨y, ns, pa, rfl⟩ := all x (List.mem_of_getElem? hx)
    refine ⟨by simp only [wipe, List.set_set], ?_⟩
    simp only [tYes, ↓reduceIte]
    have g1 : ((wipe σ [1]).set 1 (some (V.str (textOf y ns))))[1]? = some (some (.str (textOf y ns))) := List.getElem?_set_self (by simp only [wipe, List.length_set]; exact l1)
    refine ⟨_, g1, y, ns, rfl, pa, fun H3 s3 => ⟨_, g1, kvs, kI (rankOf y ns), rfl, s3 _ _ hD, by rw [sizeLine_eq]; omega, same_updN (s1.trans s3) nD, _, upd_same, ?_, inv.step pa hx⟩⟩
    exact Nat.le_trans (length_putK _ _ _) (Nat.succ_le_succ hl)
  · obtain ⟨s1, kvs, hD, hl, inv⟩ := q
    exact k _ D kvs s1 hD hl inv
theorem ints_of : ∀ {ks : List Key}, (∀ k, k ∈ ks → ∃ r, k = kI r) → ∃ rs : List Int, ks = rs.map kI
  | [], _ => ⟨[], rfl⟩
  | k :: ks, h => by
    obtain ⟨r, rfl⟩ := h k List.mem_cons_self
    obtain ⟨rs, e⟩ := ints_of fun k' hk => h k' (List.mem_cons_of_mem _ hk)
    exact ⟨r :: rs, by rw [e]; rfl⟩
/-- [int(at) for at in ranked], the dict locked -/
theorem intkeys_ok {σ : L2.St} {H : Hp} {Q : VK} {D : Addr} {kvs : List (Key × V)} {rs : List Int} (v2 : σ[2]? = some (some (.ref D))) (l3 : 3 < σ.length) (hD : H D = some (.dK kvs)) (few : kvs.length ≤ 60) (ek : kvs.map (·.1) = rs.map kI)
    (k : ∀ H' q, Same H H' → H' q = some (.lst (rs.map V.int)) → Q (.ref q) H') : tLockE (tLc (iKeys (tVar 2)) (gName 3) tYes (tIntI (tCons (tVar 3) tNil)) [3]) σ H Q := by
  refine ⟨D, .dK kvs, hD, True.intro, fun od => ⟨_, v2, D, od, rfl, .inl ⟨kvs, upd_same, fun D2 nD2 => ?_⟩⟩⟩
  have ne : D2 ≠ D := fun z => by
    rw [z, upd_same] at nD2
    cases nD2
  have nH : H D2 = none := by rw [upd_ne ne] at nD2; exact nD2
  have el : rs.length = kvs.length := by
    have := congrArg List.length ek
    rw [List.length_map, List.length_map] at this
    exact this.symm
  refine lc_it walk_keys (fun n H' => H' D = some (.frz od (.dK kvs)) ∧ H' D2 = some (.lst ((rs.take n).map V.int)) ∧ ∀ b o, b ≠ D → H b = some o → H' b = some o) ⟨?_, upd_same, fun b o nb e => ?_⟩ (fun n H' _ q => q.1) (fun n x H' H2 hn q y => ?_) (fun H' q => ?_)
  · rw [upd_ne ne.symm, upd_same]
  · rw [upd_ne (ne_of_none e nH), upd_ne nb]
    exact e
  · obtain ⟨rfl, k1, v1, hk, rfl⟩ := y
    obtain ⟨a, b, c⟩ := q
    have lt : n < rs.length := by rw [el]; exact hn
    have hk1 : k1 = kI rs[n] := by
      have z : (kvs.map (·.1))[n]? = some k1 := by rw [List.getElem?_map, hk]; rfl
      rw [ek, List.getElem?_map, List.getElem?_eq_getElem lt] at z
      exact (Option.some.inj z).symm
    subst hk1
    refine ⟨by simp only [wipe, List.set_set], ?_⟩
    simp only [tYes, ↓reduceIte]
    refine ⟨_, List.getElem?_set_self (by simp only [wipe, List.length_set]; exact l3), .inl ⟨rs[n], rfl, _, b, ?_, ?_, ?_, fun b' o nb e => ?_⟩⟩
    · rw [List.length_map, List.length_take, sizeLine_eq]
      omega
    · rw [upd_ne ne.symm]
      exact a
    · rw [upd_same]
      have e : rs.take (n + 1) = rs.take n ++ [rs[n]] := (List.take_append_getElem lt).symm
      rw [e, List.map_append]
      rfl
    · rw [upd_ne (ne_of_none e nH)]
      exact c b' o nb e
  · obtain ⟨a, b, c⟩ := q
    refine ⟨a, k _ D2 (fun b' o e => ?_) ?_⟩
    · by_cases z : b' = D
      · subst z
        rw [upd_same, ← e, hD]
      · rw [upd_ne z]
        exact c b' o z e
    · rw [upd_ne ne, b, ← el, List.take_length]
/-- tuple([ranked[at] for at in sorted(..)]) -/
theorem sorted_ok {K : PySem.W.Frag} {σ : L2.St} {H : Hp} {Q : VK} {D : Addr} {kvs : List (Key × V)} {rs : List Int} (v2 : σ[2]? = some (some (.ref D))) (l3 : 3 < σ.length) (hD : H D = some (.dK kvs)) (few : kvs.length ≤ 60) (ek : kvs.map (·.1) = rs.map kI)
    (vals : ∀ rs' : List Int, rs'.Perm rs → rs'.Pairwise (· ≤ ·) → ∀ r, r ∈ rs' → valV kvs (kI r) = some (.str (strAt kvs r)))
    (k : ∀ H' q (rs' : List Int), rs'.Perm rs → rs'.Pairwise (· ≤ ·) → Same H H' → H' q = some (.tup ((rs'.map (strAt kvs)).map V.str)) → Q (.ref q) H') :
    tCB (fun xs H Q => ∃ p ys, xs = [.ref p] ∧ ((SqL K H p ys ∧ ∀ l, H l = none → Q (.ref l) (upd H l (.tup ys))) ∨ SqT K H p ys ∧ Q (.ref p) H))
      (tCons (tLc (iList K (tCB (rSortedI K) (tCons (tLockE (tLc (iKeys (tVar 2)) (gName 3) tYes (tIntI (tCons (tVar 3) tNil)) [3])) tNil))) (gName 3) tYes (tDGet (tVar 2) (tVar 3)) [3]) tNil) σ H Q := by
  have el : rs.length = kvs.length := by
    have := congrArg List.length ek
    rw [List.length_map, List.length_map] at this
    exact this.symm
  refine intkeys_ok v2 l3 hD few ek fun H1 q s1 hq => ⟨q, rs, rfl, SqL.of hq, fun rs' q2 perm srt n2 => ⟨q2, rfl, ⟨_, SqL.of upd_same⟩, fun D3 n3 => ?_⟩⟩
  have s2 := same_new (o := .lst (rs'.map V.int)) n2
  have h2 : upd H1 q2 (.lst (rs'.map V.int)) q2 = some (.lst (rs'.map V.int)) := upd_same
  have hD1 := (s1.trans s2) _ _ hD
  generalize upd H1 q2 (.lst (rs'.map V.int)) = H2 at s2 h2 n3 hD1 ⊢
  have el' : rs'.length = rs.length := perm.length_eq
  refine lc_list (xs := rs'.map V.int) (fun n H' => Same H2 H' ∧ H' D3 = some (.lst (((rs'.take n).map (strAt kvs)).map V.str))) ⟨same_new n3, upd_same⟩ (fun n H' _ p => SqL.of (p.1 _ _ h2)) (fun n x H' hx p => ?_) (fun H' p => ?_)
  · rw [List.getElem?_map] at hx
    obtain ⟨r, hr, rfl⟩ := Option.map_eq_some_iff.mp hx
    have lt : n < rs'.length := by
      rcases Nat.lt_or_ge n rs'.length with z | z
      · exact z
      · rw [List.getElem?_eq_none z] at hr
        cases hr
    refine ⟨by simp only [wipe, List.set_set], ?_⟩
    simp only [tYes, ↓reduceIte]
    have g2 : ((wipe σ [3]).set 3 (some (V.int r)))[2]? = some (some (.ref D)) := by
      simp only [wipe]
      rw [List.getElem?_set_ne (by decide), List.getElem?_set_ne (by decide)]
      exact v2
    have dg := DGet.k (k := kI r) (p.1 _ _ hD1)
    rw [vals rs' perm srt r (List.mem_of_getElem? hr)] at dg
    refine ⟨_, g2, _, List.getElem?_set_self (by simp only [wipe, List.length_set]; exact l3), D, _, rfl, dg, _, p.2, ?_, same_updN p.1 n3, ?_⟩
    · rw [List.length_map, List.length_map, List.length_take, sizeLine_eq]
      omega
    · rw [upd_same]
      have e : rs'.take (n + 1) = rs'.take n ++ [r] := by
        rw [List.getElem?_eq_getElem lt] at hr
        cases hr
        exact (List.take_append_getElem lt).symm
      rw [e, List.map_append, List.map_append]
      rfl
  · rw [List.length_map, List.take_length] at p
    exact ⟨D3, _, rfl, .inl ⟨SqL.of p.2, fun l nl => k _ l rs' perm srt (((s1.trans s2).trans p.1).trans (same_new nl)) upd_same⟩⟩
section
variable {P : Program} {w : World} {K : PySem.W.Frag} {mg : Str → Option Value} {h base : Heap} {fd : FuncData}
theorem ok_in_order (T : Top w K mg) (R_BadUnit : RzX P w K mg base "BadUnit" (ca K 2) ["value"]) (D_is_unit : Def P w K mg base "is_unit" 4 ["value"] (spUnit K)) (D_rank_of : Def P w K mg base "rank_of" 6 ["unit"] (spRankOf K)) (F : Fn K "in_order" s_in_order fd) : FnOk P w K mg base (L2.CX P w) 7 (He.ga K "in_order") fd ["units"] (spInOrder K) := by
  refine F.ok sc_in_order (fun vs H Q E h => ?_) (fun cdv A outer s H vs Q E hr h => ?_)
  · obtain ⟨v, rfl, _⟩ := h
    rfl
  · obtain ⟨v, rfl, h⟩ := h
    have hu := hr.units
    refine ⟨_, (pss_cons (ps_if (pt_not (pt_val (pe_callB call_isiT rfl T.n_isinstance (by decide +kernel) (pa_cons (pv 0) (pa_cons (pe_tup (pa_cons (pe_bltn (v := .ty "list") (u := .type "list") rfl T.n_list (by decide +kernel) rfl) (pa_cons (pe_bltn (v := .ty "tuple") (u := .type "tuple") rfl T.n_tuple (by decide +kernel) rfl) pa_nil))) pa_nil))))) (pss_one (ps_rz R_BadUnit rfl (hr.mono (by decide)) (takes_of rfl rfl rfl rfl) rfl (pa_cons pe_non pa_nil))) pss_nil)
      (pss_cons (ps_for (passes_of rfl) rfl (pi_sq (pv 0)) (pg_name (i := 1) sc_in_order.nd rfl (by first | exact Or.inl rfl | exact Or.inr rfl)) (pss_one (ps_if (pt_not (pt_val (pe_callD D_is_unit (hr.mono (by decide)) rfl (pa_cons (pv 1) pa_nil)))) (pss_one (ps_rz R_BadUnit rfl (hr.mono (by decide)) (takes_of rfl rfl rfl rfl) rfl (pa_cons (pv 1) pa_nil))) pss_nil)))
      (pss_cons (ps_set (i := 2) sc_in_order.nd rfl (by first | exact Or.inl rfl | exact Or.inr rfl) (pe_dc (own := [("unit", 1)]) (g := gName 1) (tk := tCall (spRankOf K) [] E0 (tCons (tVar 1) tNil)) (tv := tVar 1) (tt := tYes) (by rfl) sc_in_order.nd (pi_sq (pv 0)) (blkOk_by (own := [("unit", 1)]) (N := ["units", "unit", "ranked", "at"]) (sc := defScope s_in_order) (by decide +kernel)) (fun _ _ _ _ _ => by exact (pg_name (i := 1) sc_in_order.nd rfl (by first | exact Or.inl rfl | exact Or.inr rfl))) (fun _ _ _ _ _ => by exact pts_nil) (fun _ _ _ _ _ => by exact (pe_callD D_rank_of (hr.mono (by decide)) rfl (pa_cons (pv 1) pa_nil))) (fun _ _ _ _ _ => by exact (pv 1))))
      (pss_one (ps_ret (pe_callTy call_tuple_of rfl T.n_tuple (by decide +kernel) (pa_cons (pe_lc (own := [("at", 3)]) (g := gName 3) (te := tDGet (tVar 2) (tVar 3)) (tt := tYes) (by rfl) sc_in_order.nd (pi_list (pe_callB cr_sortedI rfl T.n_sorted (by decide +kernel) (pa_cons (pe_lock (pe_lc (own := [("at", 3)]) (g := gName 3) (te := tIntI (tCons (tVar 3) tNil)) (tt := tYes) (by rfl) sc_in_order.nd (pi_keys (pv 2)) (blkOk_by (own := [("at", 3)]) (N := ["units", "unit", "ranked", "at"]) (sc := defScope s_in_order) (by decide +kernel)) (fun _ _ _ _ _ => by exact (pg_name (i := 3) sc_in_order.nd rfl (by first | exact Or.inl rfl | exact Or.inr rfl))) (fun _ _ _ _ _ => by exact pts_nil) (fun _ _ _ _ _ => by exact (pe_callTy call_int1 rfl T.n_int (by decide +kernel) (pa_cons (pv 3) pa_nil))))) pa_nil))) (blkOk_by (own := [("at", 3)]) (N := ["units", "unit", "ranked", "at"]) (sc := defScope s_in_order) (by decide +kernel)) (fun _ _ _ _ _ => by exact (pg_name (i := 3) sc_in_order.nd rfl (by first | exact Or.inl rfl | exact Or.inr rfl))) (fun _ _ _ _ _ => by exact pts_nil) (fun _ _ _ _ _ => by exact (pe_dget (Nat.lt_of_le_of_lt (Nat.add_le_add_left (by decide) _) hu) (pv 2) (pv 3) (fun _ _ => rfl)))) pa_nil))))))), ?_⟩
    rcases h with ⟨p, xs, rfl, sv, k⟩ | ⟨sk, k⟩
    · refine ⟨_, rfl, (by decide : (2 : Nat) ≤ sizeLine), fun tp ntp => ?_⟩
      have s1 := same_new (o := .tup [.ty "list", .ty "tuple"]) ntp
      obtain ⟨n, ty, ki⟩ := sv.sk _ s1
      refine ⟨_, tp, [.ty "list", .ty "tuple"], .type n, [.type "list", .type "tuple"], true, rfl, upd_same, .cons (.ty "list") (.cons (.ty "tuple") .nil), ty, ki, _, rfl, ?_⟩
      have hp1 := sv.sq.keep (SqKeep.of_same s1)
      generalize upd H tp (.tup [.ty "list", .ty "tuple"]) = H1 at s1 hp1 ⊢
      refine ⟨_, rfl, p, xs, rfl, hp1, fun J wk => ?_⟩
      refine for_it wk (fun n σ' H' => (∃ a b c, σ' = [some (.ref p), a, b, c]) ∧ Same H1 H' ∧ ∀ j y, j < n → xs[j]? = some y → unitV y = true) ⟨⟨_, _, _, rfl⟩, fun _ _ z => z, fun _ _ z => absurd z (Nat.not_lt_zero _)⟩ (fun n σ' H' _ q => SqKeep.of_same q.2.1) (fun n z σ' H' H'' hn q yy => ?_) (fun σ' H' q => ?_)
      · obtain ⟨⟨a, b, c, rfl⟩, sm, good⟩ := q
        obtain ⟨rfl, hz⟩ := yy
        refine ⟨_, rfl, z, rfl, sv.kd z (List.mem_of_getElem? hz) _ (s1.trans sm), fun x e => sv.short x (by rw [← e]; exact List.mem_of_getElem? hz), fun H2 s2 => ⟨_, rfl, ?_⟩⟩
        refine ite2 (fun c => ?_) (fun c => ?_)
        · have bad : unitV z = false := by
            cases q : unitV z with
            | false => rfl
            | true => rw [q] at c; cases c
          unfold OrdOk at k
          rw [firstNo_at good hz bad] at k
          exact ⟨_, rfl, rz_ok R_BadUnit rfl (by decide) fun d H3 s3 ex => k _ d (((s1.trans sm).trans s2).trans s3) ex⟩
        · have ok : unitV z = true := by
            cases q : unitV z with
            | true => rfl
            | false =>
              refine absurd ?_ c
              rw [q]
              rfl
          refine ⟨⟨_, _, _, rfl⟩, sm.trans s2, fun j y hj hy => ?_⟩
          rcases Nat.lt_or_ge j n with q | q
          · exact good j y q hy
          · obtain rfl : j = n := by omega
            rw [hz] at hy
            cases hy
            exact ok
      · obtain ⟨⟨a, b, c, rfl⟩, sm, good⟩ := q
        have units : ∀ u, u ∈ xs → unitV u = true := fun u hu' => by
          obtain ⟨j, hj, rfl⟩ := List.getElem_of_mem hu'
          exact good j _ hj (List.getElem?_eq_getElem hj)
        have all : ∀ u, u ∈ xs → ∃ y ns, Parts y ns ∧ u = .str (textOf y ns) := fun u hu' => unit_shape (units u hu') fun x e => sv.short x (by rw [← e]; exact hu')
        unfold OrdOk at k
        rw [firstNo_none units] at k
        refine set_of (ranked_ok (xs := xs) rfl (by show 1 < 4; decide) (hp1.keep (SqKeep.of_same sm)) sv.few all fun H2 D kvs s2 hD hl inv => ?_)
        have keys : ∀ k', k' ∈ kvs.map (·.1) → ∃ r, k' = kI r := fun k' hk' => by
          rw [mem_keys] at hk'
          obtain ⟨v, hv⟩ := Option.isSome_iff_exists.mp hk'
          obtain ⟨j, y, ns, _, _, _, e, _⟩ := (inv.val _ _).mp hv
          exact ⟨_, e⟩
        obtain ⟨rs, ek⟩ := ints_of keys
        refine sorted_ok (D := D) (kvs := kvs) (rs := rs) rfl (by show 3 < 4; decide) hD (Nat.le_trans hl sv.few) ek (fun rs' pm st => (inv.ord all ek pm st hl).1) fun H3 q rs' pm st s3 hq => ?_
        exact k _ _ q (inv.ord all ek pm st hl).2 (((s1.trans sm).trans s2).trans s3) hq
    · refine ⟨_, rfl, (by decide : (2 : Nat) ≤ sizeLine), fun tp ntp => ?_⟩
      have s1 := same_new (o := .tup [.ty "list", .ty "tuple"]) ntp
      obtain ⟨n, ty, ki⟩ := sk _ s1
      refine ⟨_, tp, [.ty "list", .ty "tuple"], .type n, [.type "list", .type "tuple"], false, rfl, upd_same, .cons (.ty "list") (.cons (.ty "tuple") .nil), ty, ki, _, rfl, ?_⟩
      exact rz_ok R_BadUnit rfl (by decide) fun d H3 s3 ex => k _ d (s1.trans s3) ex
end
end L2.K32
set_option Elab.async false
set_option linter.all false
set_option maxRecDepth 100000
set_option maxHeartbeats 4000000
/-! The text of units. -/
namespace L2.K32
open PySem PySem.Spec PyProof.Rows L2.RV
def unitsLine (L : List Str) : Str := if L = [] then "-" else Txt.join " , " L
def OrdOkT (K : PySem.W.Frag) (H : Hp) (Q : VK) (E : XK) (xs : List V) : Prop := match firstNo xs with
  | some u => ∀ H' d, Same H H' → ErrX H' d [("value", u)] → E (.ref (ca K 2)) (some d) H'
  | none => ∀ L H', IsOrd L xs → Same H H' → Q (.str (unitsLine L)) H'
/-- units_text(units) -/
def spUnitsText (K : PySem.W.Frag) : Sp := fun vs H Q E => ∃ v, vs = [v] ∧ ((∃ p xs, v = .ref p ∧ SeqV K H p xs ∧ OrdOkT K H Q E xs) ∨ (∀ H', Same H H' → SeqK K H' v false) ∧ ∀ H' d, Same H H' → ErrX H' d [("value", .non)] → E (.ref (ca K 2)) (some d) H')
theorem join_size {L : List Str} (few : L.length ≤ 60) (short : ∀ x, x ∈ L → x.length ≤ 50) : (L.map (·.length)).sum + L.length * (" , " : Str).length ≤ 16777216 := by
  have sp : (" , " : Str).length = 3 := by decide +kernel
  have all : ∀ ms : List Str, (∀ x, x ∈ ms → x.length ≤ 50) → (ms.map (·.length)).sum ≤ 50 * ms.length := by
    intro ms
    induction ms with
    | nil => intro _; exact Nat.le_refl _
    | cons m ms ih =>
      intro h
      have z := h m List.mem_cons_self
      have r := ih fun n hn => h n (List.mem_cons_of_mem _ hn)
      rw [List.map_cons, List.sum_cons, List.length_cons]
      omega
  have r := all L short
  rw [sp]
  omega
section
variable {P : Program} {w : World} {K : PySem.W.Frag} {mg : Str → Option Value} {h base : Heap} {fd : FuncData}
theorem ok_units_text (D_in_order : DefX (L2.CX P w) P w K mg base "in_order" 7 ["units"] (spInOrder K)) (F : Fn K "units_text" s_units_text fd) : FnOk P w K mg base (L2.CX P w) 8 (He.ga K "units_text") fd ["units"] (spUnitsText K) := by
  refine F.ok sc_units_text (fun vs H Q E h => ?_) (fun cdv A outer s H vs Q E hr h => ?_)
  · obtain ⟨v, rfl, _⟩ := h
    rfl
  · obtain ⟨v, rfl, h⟩ := h
    have hu := hr.units
    refine ⟨_, (pss_cons (ps_set (i := 1) sc_units_text.nd rfl (by first | exact Or.inl rfl | exact Or.inr rfl) (pe_callX D_in_order (hr.mono (by decide)) rfl (passes_call (takes_of rfl rfl rfl rfl) (fun _ _ _ _ h => h)) (pa_cons (pv 0) pa_nil)))
      (pss_one (ps_ret (pe_ifExp (pt_truth (pv 1) (by intro _; rfl)) (pe_bm PySem.F.plainAttrs_str PySem.F.slot_str_join PySem.F.type_str_join mt_join pe_str (pa_cons (pv 1) pa_nil)) pe_str)))), ?_⟩
    rcases h with ⟨p, xs, rfl, sv, k⟩ | ⟨sk, k⟩
    · refine ⟨_, rfl, _, rfl, .inl ⟨p, xs, rfl, sv, ?_⟩⟩
      unfold OrdOkT at k
      unfold OrdOk
      cases hf : firstNo xs with
      | some u =>
        rw [hf] at k
        exact k
      | none =>
        rw [hf] at k
        intro L H' q ord s1 hq
        have k' := k L _ ord s1
        have lq : L.length ≤ 60 := Nat.le_trans ord.few sv.few
        have ls : ∀ x, x ∈ L → x.length ≤ 50 := fun x hx => sv.short x ((ord.mem x).mp hx)
        refine ⟨_, rfl, _, .inr (.inl ⟨_, SqT.of hq, rfl⟩), ?_⟩
        cases L with
        | nil => exact k'
        | cons x L =>
          refine ⟨rfl, _, rfl, _, q, x :: L, rfl, rfl, .inr (SqT.of hq), join_size lq ls, ?_⟩
          exact k'
    · exact ⟨_, rfl, _, rfl, .inr ⟨sk, k⟩⟩
end
end L2.K32
set_option Elab.async false
set_option linter.all false
set_option maxRecDepth 100000
set_option maxHeartbeats 4000000
/-! The words of a text, taken one by one: what is taken comes with the words behind it. -/
namespace L2.K32
open PySem PySem.Spec PyProof.Rows L2.RV
abbrev cW (K : PySem.W.Frag) : Addr := He.ga K "Words"
def wf1 (q : Addr) : List (Str × V) := [("words", .ref q)]
def wf2 (q : Addr) (i : Nat) : List (Str × V) := [("words", .ref q), ("at", .int i)]
def wf (q : Addr) (i : Nat) : List (Str × V) := [("words", .ref q), ("at", .int i), ("line", .int 0)]
/-- the words ws at a, of which i were taken -/
structure WdsAt (K : PySem.W.Frag) (H : Hp) (a : Addr) (ws : List Str) (i : Nat) : Prop where
  ex : ∃ dx q, H a = some (.ins (cW K) dx (wf q i)) ∧ H q = some (.tup (ws.map V.str))
  few : ws.length ≤ 1000
  short : ∀ x, x ∈ ws → x.length ≤ 50
def wAt (ws : List Str) (i : Nat) : V := match ws[i]? with
  | some x => .str x
  | none => .non
def BadAt (K : PySem.W.Frag) (H : Hp) (E : XK) (i : Nat) : Prop := ∀ H' d, Same H H' → ErrX H' d [("line", .int 0), ("word", .int i)] → E (.ref (ca K 4)) (some d) H'
theorem BadAt.same {K : PySem.W.Frag} {H H' : Hp} {E : XK} {i : Nat} (b : BadAt K H E i) (s : Same H H') : BadAt K H' E i := fun H2 d s2 ex => b H2 d (s.trans s2) ex
theorem WdsAt.same {K : PySem.W.Frag} {H H' : Hp} {a : Addr} {ws : List Str} {i : Nat} (x : WdsAt K H a ws i) (s : Same H H') : WdsAt K H' a ws i := by
  obtain ⟨⟨dx, q, e1, e2⟩, f, g⟩ := x
  exact ⟨⟨dx, q, s _ _ e1, s _ _ e2⟩, f, g⟩
theorem WdsAt.ins {K : PySem.W.Frag} {H : Hp} {a : Addr} {ws : List Str} {i : Nat} (x : WdsAt K H a ws i) : ∃ dx q, H a = some (.ins (cW K) dx (wf q i)) := by
  obtain ⟨⟨dx, q, e1, e2⟩, f, g⟩ := x
  exact ⟨dx, q, e1⟩
def spPeek (K : PySem.W.Frag) : Sp := fun vs H Q _ => ∃ a ws i, vs = [.ref a] ∧ WdsAt K H a ws i ∧ Q (wAt ws i) H
def spRefuse (K : PySem.W.Frag) : Sp := fun vs H _ E => ∃ a ws i, vs = [.ref a] ∧ WdsAt K H a ws i ∧ BadAt K H E i
def spBehind (K : PySem.W.Frag) : Sp := fun vs H Q E => ∃ a ws i, vs = [.ref a] ∧ WdsAt K H a ws i ∧ match ws[i]? with
  | some _ => ∀ H' b, Same H H' → WdsAt K H' b ws (i + 1) → Q (.ref b) H'
  | none => BadAt K H E i
def spBehindOne (K : PySem.W.Frag) : Sp := fun vs H Q E => ∃ (a : Addr) (ws : List Str) (i : Nat) (p : Addr) (cs : List Str), vs = [.ref a, .ref p] ∧ WdsAt K H a ws i ∧ (SqL K H p (cs.map V.str) ∨ SqT K H p (cs.map V.str)) ∧ match ws[i]? with
  | some x => if (cs.any fun y => y == x) = true then ∀ H' b, Same H H' → WdsAt K H' b ws (i + 1) → Q (.ref b) H' else BadAt K H E i
  | none => BadAt K H E i
def spTakeOne (K : PySem.W.Frag) : Sp := fun vs H Q E => ∃ (a : Addr) (ws : List Str) (i : Nat) (p : Addr) (cs : List Str), vs = [.ref a, .ref p] ∧ WdsAt K H a ws i ∧ (SqL K H p (cs.map V.str) ∨ SqT K H p (cs.map V.str)) ∧ match ws[i]? with
  | some x => if (cs.any fun y => y == x) = true then ∀ H' t b, Same H H' → H' t = some (.tup [.str x, .ref b]) → WdsAt K H' b ws (i + 1) → Q (.ref t) H' else BadAt K H E i
  | none => BadAt K H E i
def atWhole (ws : List Str) (i : Nat) : Bool := match ws[i]? with
  | some x => wholeText x
  | none => false
def spIsAtWhole (K : PySem.W.Frag) : Sp := fun vs H Q _ => ∃ a ws i, vs = [.ref a] ∧ WdsAt K H a ws i ∧ Q (.bl (atWhole ws i)) H
def spTakeWhole (K : PySem.W.Frag) : Sp := fun vs H Q E => ∃ a ws i, vs = [.ref a] ∧ WdsAt K H a ws i ∧ match ws[i]? with
  | some x => if wholeText x = true then ∀ H' t b, Same H H' → H' t = some (.tup [.int (wholeNum x), .ref b]) → WdsAt K H' b ws (i + 1) → Q (.ref t) H' else BadAt K H E i
  | none => BadAt K H E i
def spEnd (K : PySem.W.Frag) : Sp := fun vs H Q E => ∃ a ws i, vs = [.ref a] ∧ WdsAt K H a ws i ∧ if i < ws.length then BadAt K H E i else Q .non H
/-- Words(words, at, 0) -/
def spWInit (K : PySem.W.Frag) : Sp := fun vs H Q _ => ∃ (x q : Addr) (i : Nat) (dx : Addr), vs = [.ref x, .ref q, .int i, .int 0] ∧ H x = some (.ins (cW K) dx []) ∧
  ∀ H', (∀ b, b ≠ x → H' b = H b) → H' x = some (.ins (cW K) dx (wf q i)) → Q .non H'
/-- words_of(text) -/
def spWordsOf (K : PySem.W.Frag) : Sp := fun vs H Q E => ∃ (v : V), vs = [v, .int 0] ∧ Kinds K H v ∧ match v with
  | .str t => t.length ≤ 60000 ∧ (Txt.split t " ").length ≤ 1000 ∧ (∀ y, y ∈ Txt.split t " " → y.length ≤ 50) ∧ ∀ H' b, Same H H' → WdsAt K H' b (Txt.split t " ") 0 → Q (.ref b) H'
  | _ => BadAt K H E 0
theorem tru_sq {K : PySem.W.Frag} {H : Hp} {p : Addr} {xs : List V} (q : Sq K H p xs) : TruV K (.ref p) H (!xs.isEmpty) := by
  rcases q with q | q
  · exact .inr (.inl ⟨xs, q, rfl⟩)
  · exact .inl ⟨xs, q, rfl⟩
theorem len_sq {K : PySem.W.Frag} {H : Hp} {p : Addr} {xs : List V} (q : Sq K H p xs) : LenV K (.ref p) H xs.length := by
  rcases q with q | q
  · exact .inr ⟨xs, q, rfl⟩
  · exact .inl ⟨xs, q, rfl⟩
theorem ix_sq {K : PySem.W.Frag} {H : Hp} {p : Addr} {xs : List V} {i : Int} {v : V} {Q : VK} (q : Sq K H p xs) (e : atI xs i = some v) (k : Q v H) : rIx K (.ref p) (.int i) H Q := by
  rcases q with q | q
  · exact .inr (.inl ⟨p, xs, i, v, rfl, rfl, q, e, k⟩)
  · exact .inl ⟨p, xs, i, v, rfl, rfl, q, e, k⟩
theorem atI_last {α : Type} {xs : List α} {v : α} (h : xs.getLast? = some v) : atI xs (-1) = some v := by
  cases xs with
  | nil => cases h
  | cons x xs =>
    have hl : 0 < (x :: xs).length := by show 0 < xs.length + 1; omega
    have e : ixN (x :: xs).length (-1) = some ((x :: xs).length - 1) := by
      unfold ixN
      rw [if_neg (by decide), if_pos (by omega)]
      congr 1
      omega
    unfold atI
    rw [e]
    show (x :: xs)[(x :: xs).length - 1]? = some v
    rw [← List.getLast?_eq_getElem?]
    exact h
theorem in_strs (cs : List Str) (x : Str) : inV (.str x) (cs.map V.str) = cs.any fun y => y == x := by
  induction cs with
  | nil => rfl
  | cons c cs ih =>
    rw [List.any_cons, ← ih]
    rfl
theorem in_strs_non (cs : List Str) : inV .non (cs.map V.str) = false := by
  induction cs with
  | nil => rfl
  | cons c cs ih =>
    rw [← ih]
    rfl
/-- Words made behind others -/
theorem made_words {K : PySem.W.Frag} {H H' : Hp} {ws : List Str} {q x dx : Addr} {i : Nat} (hq : H q = some (.tup (ws.map V.str))) (few : ws.length ≤ 1000) (short : ∀ x, x ∈ ws → x.length ≤ 50) (nx : H x = none) (ndx : H dx = none) (nex : x ≠ dx)
    (same : ∀ b, b ≠ x → H' b = (upd (upd H dx (.own x)) x (.ins (cW K) dx [])) b) (hx : H' x = some (.ins (cW K) dx (wf q i))) : Same H H' ∧ WdsAt K H' x ws i := by
  have s : Same H H' := fun b o e => by
    rw [same b (ne_of_none e nx), upd_ne (ne_of_none e nx), upd_ne (ne_of_none e ndx)]
    exact e
  exact ⟨s, ⟨dx, q, hx, s _ _ hq⟩, few, short⟩
section
variable {P : Program} {w : World} {K : PySem.W.Frag} {mg : Str → Option Value} {h base : Heap} {fd : FuncData}
theorem ok_w_init (T : Top w K mg) {f : Addr} (F : FunD K "__init__" "Words.__init__" (defArgs s_Words_init) (defBody s_Words_init) (defScope s_Words_init) [] [] f fd) : FnOk P w K mg base CX0 1 f fd ["self", "words", "at", "line"] (spWInit K) := by
  refine F.ok sc_Words_init (fun vs H Q E h => ?_) (fun cdv A outer s H vs Q E hr h => ?_)
  · obtain ⟨x, q, i, dx, rfl, hx, k⟩ := h
    rfl
  · obtain ⟨x, q, i, dx, rfl, hx, k⟩ := h
    have hu := hr.units
    refine ⟨_, PSs.nox (pss_cons (ps_fld (pv 0) (pv 1) rfl)
      (pss_cons (ps_fld (pv 0) (pv 2) rfl)
      (pss_one (ps_fld (pv 0) (pv 3) rfl)))), ?_⟩
    refine ⟨_, rfl, _, rfl, x, cW K, dx, [], rfl, hx, T.k_Words, T.a_Words_words, (by decide : (0 : Nat) < 1000), ?_⟩
    refine ⟨_, rfl, _, rfl, x, cW K, dx, wf1 q, rfl, upd_same, T.k_Words, T.a_Words_at, (by decide : (1 : Nat) < 1000), ?_⟩
    refine ⟨_, rfl, _, rfl, x, cW K, dx, wf2 q i, rfl, upd_same, T.k_Words, T.a_Words_line, (by decide : (2 : Nat) < 1000), ?_⟩
    exact k _ (fun b nb => by rw [upd_ne nb, upd_ne nb, upd_ne nb]) upd_same
theorem ok_w_refuse (T : Top w K mg) (R_BadText : RzX P w K mg base "BadText" (ca K 4) ["line", "word"]) {f : Addr} (F : FunD K "refuse" "Words.refuse" (defArgs s_Words_refuse) (defBody s_Words_refuse) (defScope s_Words_refuse) [] [] f fd) : FnOk P w K mg base (L2.CX P w) 3 f fd ["self"] (spRefuse K) := by
  refine F.ok sc_Words_refuse (fun vs H Q E h => ?_) (fun cdv A outer s H vs Q E hr h => ?_)
  · obtain ⟨a, ws, i, rfl, wd, k⟩ := h
    rfl
  · obtain ⟨a, ws, i, rfl, wd, k⟩ := h
    have hu := hr.units
    refine ⟨_, (pss_one (ps_rz R_BadText rfl (hr.mono (by decide)) (takes_of rfl rfl rfl rfl) rfl (pa_cons (pe_fld (pv 0) rfl) (pa_cons (pe_fld (pv 0) rfl) pa_nil)))), ?_⟩
    obtain ⟨dx, q, e1, e2⟩ := wd.ex
    refine ⟨_, rfl, a, cW K, dx, wf q i, _, rfl, e1, T.k_Words, T.a_Words_line, rfl, _, rfl, a, cW K, dx, wf q i, _, rfl, e1, T.k_Words, T.a_Words_at, rfl, ?_⟩
    exact rz_ok R_BadText rfl (by decide) fun d H2 s2 ex => k _ d s2 ex
theorem ok_w_peek (T : Top w K mg) {f : Addr} (F : FunD K "peek" "Words.peek" (defArgs s_Words_peek) (defBody s_Words_peek) (defScope s_Words_peek) [] [] f fd) : FnOk P w K mg base CX0 1 f fd ["self"] (spPeek K) := by
  refine F.ok sc_Words_peek (fun vs H Q E h => ?_) (fun cdv A outer s H vs Q E hr h => ?_)
  · obtain ⟨a, ws, i, rfl, wd, k⟩ := h
    rfl
  · obtain ⟨a, ws, i, rfl, wd, k⟩ := h
    have hu := hr.units
    refine ⟨_, PSs.nox (pss_one (ps_ret (pe_ifExp (pt_cmpR op_lt (pe_fld (pv 0) rfl) (pe_callB call_len rfl T.n_len (by decide +kernel) (pa_cons (pe_fld (pv 0) rfl) pa_nil)) (nomark _)) (pe_ix ix_seq (pe_fld (pv 0) rfl) (pe_fld (pv 0) rfl) (fun _ _ => rfl)) pe_non))), ?_⟩
    obtain ⟨dx, q, e1, e2⟩ := wd.ex
    have few := wd.few
    refine ⟨_, rfl, a, cW K, dx, wf q i, _, rfl, e1, T.k_Words, T.a_Words_at, rfl, _, rfl, a, cW K, dx, wf q i, _, rfl, e1, T.k_Words, T.a_Words_words, rfl, _, _, rfl, len_sq (.inl (SqT.of e2)), _, _, rfl, rfl, _, rfl, ?_⟩
    rw [List.length_map]
    refine ite2 (fun c => ?_) (fun c => ?_)
    · have lt : i < ws.length := by have := of_decide_eq_true c; omega
      have e : wAt ws i = .str ws[i] := by unfold wAt; rw [List.getElem?_eq_getElem lt]
      rw [e] at k
      refine ⟨_, rfl, a, cW K, dx, wf q i, _, rfl, e1, T.k_Words, T.a_Words_words, rfl, _, rfl, a, cW K, dx, wf q i, _, rfl, e1, T.k_Words, T.a_Words_at, rfl, ?_⟩
      exact ix_sq (.inl (SqT.of e2)) (atI_nat (by rw [List.getElem?_map, List.getElem?_eq_getElem lt]; rfl)) k
    · have e : wAt ws i = .non := by
        unfold wAt
        rw [List.getElem?_eq_none]
        rcases Nat.lt_or_ge i ws.length with z | z
        · exact absurd (decide_eq_true (by omega : (i : Int) < (ws.length : Int))) c
        · exact z
      rw [e] at k
      exact k
theorem ok_w_behind (T : Top w K mg) (M_peek : MethX CX0 P w K mg base (cW K) "peek" 1 ["self"] (spPeek K)) (M_refuse : MethX (L2.CX P w) P w K mg base (cW K) "refuse" 3 ["self"] (spRefuse K)) (C_Words : MakeX CX0 P w K mg base "Words" (cW K) 1 ["self", "words", "at", "line"] [] (spWInit K)) {f : Addr} (F : FunD K "behind" "Words.behind" (defArgs s_Words_behind) (defBody s_Words_behind) (defScope s_Words_behind) [] [] f fd) : FnOk P w K mg base (L2.CX P w) 4 f fd ["self"] (spBehind K) := by
  refine F.ok sc_Words_behind (fun vs H Q E h => ?_) (fun cdv A outer s H vs Q E hr h => ?_)
  · obtain ⟨a, ws, i, rfl, wd, k⟩ := h
    rfl
  · obtain ⟨a, ws, i, rfl, wd, k⟩ := h
    have hu := hr.units
    refine ⟨_, (pss_cons (ps_if (pt_cmpR op_isN (pe_mX0 M_peek T.k_Words (hr.mono (by decide)) pass_CX0 (pv 0)) pe_non (nomark _)) (pss_one (ps_expr (pe_mX0 M_refuse T.k_Words (hr.mono (by decide)) (passes_call (takes_of rfl rfl rfl rfl) (fun _ _ _ _ h => h)) (pv 0)))) pss_nil)
      (pss_one (ps_ret (pe_mkX C_Words (hr.mono (by decide)) rfl pass_CX0 (pa_cons (pe_fld (pv 0) rfl) (pa_cons (pe_op op_plus (pe_fld (pv 0) rfl) pe_int) (pa_cons (pe_fld (pv 0) rfl) pa_nil))))))), ?_⟩
    obtain ⟨dx, q, e1, e2⟩ := wd.ex
    refine ⟨_, rfl, a, dx, wf q i, rfl, e1, rfl, a, ws, i, rfl, wd, ?_⟩
    cases e : ws[i]? with
    | none =>
      rw [e] at k
      have ew : wAt ws i = .non := by unfold wAt; rw [e]
      rw [ew]
      refine ⟨rfl, _, rfl, ?_⟩
      exact ⟨_, rfl, a, dx, wf q i, rfl, e1, rfl, a, ws, i, rfl, wd, k⟩
    | some x =>
      rw [e] at k
      have ew : wAt ws i = .str x := by unfold wAt; rw [e]
      rw [ew]
      refine ⟨rfl, _, rfl, ?_⟩
      refine ⟨_, rfl, a, cW K, dx, wf q i, _, rfl, e1, T.k_Words, T.a_Words_words, rfl, _, rfl, a, cW K, dx, wf q i, _, rfl, e1, T.k_Words, T.a_Words_at, rfl, .inl ⟨_, _, rfl, rfl, _, rfl, a, cW K, dx, wf q i, _, rfl, e1, T.k_Words, T.a_Words_line, rfl, fun x' dx' nx ndx nex => ⟨x', q, i + 1, dx', rfl, upd_same, fun H' sm hx => ⟨rfl, ?_⟩⟩⟩⟩
      obtain ⟨s, wd'⟩ := made_words e2 wd.few wd.short nx ndx nex.symm sm hx
      exact k _ _ s wd'
theorem ok_w_behind_one (T : Top w K mg) (M_peek : MethX CX0 P w K mg base (cW K) "peek" 1 ["self"] (spPeek K)) (M_refuse : MethX (L2.CX P w) P w K mg base (cW K) "refuse" 3 ["self"] (spRefuse K)) (M_behind : MethX (L2.CX P w) P w K mg base (cW K) "behind" 4 ["self"] (spBehind K)) {f : Addr} (F : FunD K "behind_one" "Words.behind_one" (defArgs s_Words_behind_one) (defBody s_Words_behind_one) (defScope s_Words_behind_one) [] [] f fd) : FnOk P w K mg base (L2.CX P w) 5 f fd ["self", "choices"] (spBehindOne K) := by
  refine F.ok sc_Words_behind_one (fun vs H Q E h => ?_) (fun cdv A outer s H vs Q E hr h => ?_)
  · obtain ⟨a, ws, i, p, cs, rfl, wd, sq, k⟩ := h
    rfl
  · obtain ⟨a, ws, i, p, cs, rfl, wd, sq, k⟩ := h
    have hu := hr.units
    refine ⟨_, (pss_cons (ps_if (pt_cmpR op_notIn_seq (pe_mX0 M_peek T.k_Words (hr.mono (by decide)) pass_CX0 (pv 0)) (pv 1) rfl) (pss_one (ps_expr (pe_mX0 M_refuse T.k_Words (hr.mono (by decide)) (passes_call (takes_of rfl rfl rfl rfl) (fun _ _ _ _ h => h)) (pv 0)))) pss_nil)
      (pss_one (ps_ret (pe_mX0 M_behind T.k_Words (hr.mono (by decide)) (passes_call (takes_of rfl rfl rfl rfl) (fun _ _ _ _ h => h)) (pv 0))))), ?_⟩
    obtain ⟨dx, q, e1, e2⟩ := wd.ex
    refine ⟨_, rfl, a, dx, wf q i, rfl, e1, rfl, a, ws, i, rfl, wd, ?_⟩
    have all : (cs.map V.str).all flatV = true := List.all_eq_true.mpr fun v hv => by
      obtain ⟨y, _, rfl⟩ := List.mem_map.mp hv
      rfl
    cases e : ws[i]? with
    | none =>
      rw [e] at k
      have ew : wAt ws i = .non := by unfold wAt; rw [e]
      rw [ew]
      refine ⟨_, rfl, p, cs.map V.str, rfl, sq, rfl, all, _, rfl, ?_⟩
      have n : inV .non (cs.map V.str) = false := in_strs_non cs
      show if (!inV .non (cs.map V.str)) = true then _ else _
      rw [n]
      exact ⟨_, rfl, a, dx, wf q i, rfl, e1, rfl, a, ws, i, rfl, wd, k⟩
    | some x =>
      rw [e] at k
      have ew : wAt ws i = .str x := by unfold wAt; rw [e]
      rw [ew]
      refine ⟨_, rfl, p, cs.map V.str, rfl, sq, rfl, all, _, rfl, ?_⟩
      have n : inV (.str x) (cs.map V.str) = cs.any fun y => y == x := in_strs cs x
      show if (!inV (.str x) (cs.map V.str)) = true then _ else _
      rw [n]
      have k' : if (cs.any fun y => y == x) = true then ∀ H' b, Same H H' → WdsAt K H' b ws (i + 1) → Q (.ref b) H' else BadAt K H E i := k
      cases b : cs.any fun y => y == x with
      | false =>
        rw [b] at k'
        exact ⟨_, rfl, a, dx, wf q i, rfl, e1, rfl, a, ws, i, rfl, wd, k'⟩
      | true =>
        rw [b] at k'
        refine ⟨_, rfl, a, dx, wf q i, rfl, e1, rfl, a, ws, i, rfl, wd, ?_⟩
        rw [e]
        exact k'
theorem ok_w_take_one (T : Top w K mg) (M_peek : MethX CX0 P w K mg base (cW K) "peek" 1 ["self"] (spPeek K)) (M_behind_one : MethX (L2.CX P w) P w K mg base (cW K) "behind_one" 5 ["self", "choices"] (spBehindOne K)) {f : Addr} (F : FunD K "take_one" "Words.take_one" (defArgs s_Words_take_one) (defBody s_Words_take_one) (defScope s_Words_take_one) [] [] f fd) : FnOk P w K mg base (L2.CX P w) 6 f fd ["self", "choices"] (spTakeOne K) := by
  refine F.ok sc_Words_take_one (fun vs H Q E h => ?_) (fun cdv A outer s H vs Q E hr h => ?_)
  · obtain ⟨a, ws, i, p, cs, rfl, wd, sq, k⟩ := h
    rfl
  · obtain ⟨a, ws, i, p, cs, rfl, wd, sq, k⟩ := h
    have hu := hr.units
    refine ⟨_, (pss_one (ps_ret (pe_tup (pa_cons (pe_mX0 M_peek T.k_Words (hr.mono (by decide)) pass_CX0 (pv 0)) (pa_cons (pe_mX M_behind_one T.k_Words (hr.mono (by decide)) (passes_call (takes_of rfl rfl rfl rfl) (fun _ _ _ _ h => h)) (pv 0) (pa_cons (pv 1) pa_nil)) pa_nil))))), ?_⟩
    obtain ⟨dx, q, e1, e2⟩ := wd.ex
    refine ⟨_, rfl, a, dx, wf q i, rfl, e1, rfl, a, ws, i, rfl, wd, ⟨_, rfl, a, dx, wf q i, rfl, e1, rfl, _, rfl, a, ws, i, p, cs, rfl, wd, sq, ?_⟩⟩
    cases e : ws[i]? with
    | none =>
      rw [e] at k
      exact k
    | some x =>
      rw [e] at k
      have ew : wAt ws i = .str x := by unfold wAt; rw [e]
      rw [ew]
      have k' : if (cs.any fun y => y == x) = true then ∀ H' t b, Same H H' → H' t = some (.tup [.str x, .ref b]) → WdsAt K H' b ws (i + 1) → Q (.ref t) H' else BadAt K H E i := k
      show if (cs.any fun y => y == x) = true then _ else _
      cases b : cs.any fun y => y == x with
      | false =>
        rw [b] at k'
        exact k'
      | true =>
        rw [b] at k'
        exact fun H' b' s wd' => ⟨(by decide : (2 : Nat) ≤ sizeLine), fun t nt => k' _ t b' (s.trans (same_new nt)) upd_same (wd'.same (same_new nt))⟩
theorem ok_w_is_at_whole (T : Top w K mg) (D_is_whole_text : Def P w K mg base "is_whole_text" 1 ["word"] spWText) (M_peek : MethX CX0 P w K mg base (cW K) "peek" 1 ["self"] (spPeek K)) {f : Addr} (F : FunD K "is_at_whole" "Words.is_at_whole" (defArgs s_Words_is_at_whole) (defBody s_Words_is_at_whole) (defScope s_Words_is_at_whole) [] [] f fd) : FnOk P w K mg base CX0 3 f fd ["self"] (spIsAtWhole K) := by
  refine F.ok sc_Words_is_at_whole (fun vs H Q E h => ?_) (fun cdv A outer s H vs Q E hr h => ?_)
  · obtain ⟨a, ws, i, rfl, wd, k⟩ := h
    rfl
  · obtain ⟨a, ws, i, rfl, wd, k⟩ := h
    have hu := hr.units
    refine ⟨_, PSs.nox (pss_cons (ps_set (i := 1) sc_Words_is_at_whole.nd rfl (by first | exact Or.inl rfl | exact Or.inr rfl) (pe_mX0 M_peek T.k_Words (hr.mono (by decide)) pass_CX0 (pv 0)))
      (pss_one (ps_ret (pe_and (pe_cmpR op_notN (pv 1) pe_non (nomark _)) (pe_one (pe_callD D_is_whole_text (hr.mono (by decide)) rfl (pa_cons (pv 1) pa_nil))))))), ?_⟩
    obtain ⟨dx, q, e1, e2⟩ := wd.ex
    refine ⟨_, rfl, a, dx, wf q i, rfl, e1, rfl, a, ws, i, rfl, wd, ?_⟩
    cases e : ws[i]? with
    | none =>
      have ew : wAt ws i = .non := by unfold wAt; rw [e]
      have ea : atWhole ws i = false := by unfold atWhole; rw [e]
      rw [ea] at k
      rw [ew]
      exact ⟨_, rfl, rfl, _, rfl, k⟩
    | some x =>
      have ew : wAt ws i = .str x := by unfold wAt; rw [e]
      have ea : atWhole ws i = wholeText x := by unfold atWhole; rw [e]
      rw [ea] at k
      rw [ew]
      have lx := wd.short x (List.mem_of_getElem? e)
      exact ⟨_, rfl, rfl, _, rfl, _, rfl, x, rfl, by rw [sizeLine_eq]; omega, k⟩
theorem ok_w_take_whole (T : Top w K mg) (D_whole_of : Def P w K mg base "whole_of" 1 ["word"] spWholeOf) (M_is_at_whole : MethX CX0 P w K mg base (cW K) "is_at_whole" 3 ["self"] (spIsAtWhole K)) (M_peek : MethX CX0 P w K mg base (cW K) "peek" 1 ["self"] (spPeek K)) (M_refuse : MethX (L2.CX P w) P w K mg base (cW K) "refuse" 3 ["self"] (spRefuse K)) (M_behind : MethX (L2.CX P w) P w K mg base (cW K) "behind" 4 ["self"] (spBehind K)) {f : Addr} (F : FunD K "take_whole" "Words.take_whole" (defArgs s_Words_take_whole) (defBody s_Words_take_whole) (defScope s_Words_take_whole) [] [] f fd) : FnOk P w K mg base (L2.CX P w) 5 f fd ["self"] (spTakeWhole K) := by
  refine F.ok sc_Words_take_whole (fun vs H Q E h => ?_) (fun cdv A outer s H vs Q E hr h => ?_)
  · obtain ⟨a, ws, i, rfl, wd, k⟩ := h
    rfl
  · obtain ⟨a, ws, i, rfl, wd, k⟩ := h
    have hu := hr.units
    refine ⟨_, (pss_cons (ps_if (pt_not (pt_val (pe_mX0 M_is_at_whole T.k_Words (hr.mono (by decide)) pass_CX0 (pv 0)))) (pss_one (ps_expr (pe_mX0 M_refuse T.k_Words (hr.mono (by decide)) (passes_call (takes_of rfl rfl rfl rfl) (fun _ _ _ _ h => h)) (pv 0)))) pss_nil)
      (pss_one (ps_ret (pe_tup (pa_cons (pe_callD D_whole_of (hr.mono (by decide)) rfl (pa_cons (pe_mX0 M_peek T.k_Words (hr.mono (by decide)) pass_CX0 (pv 0)) pa_nil)) (pa_cons (pe_mX0 M_behind T.k_Words (hr.mono (by decide)) (passes_call (takes_of rfl rfl rfl rfl) (fun _ _ _ _ h => h)) (pv 0)) pa_nil)))))), ?_⟩
    obtain ⟨dx, q, e1, e2⟩ := wd.ex
    refine ⟨_, rfl, a, dx, wf q i, rfl, e1, rfl, a, ws, i, rfl, wd, _, rfl, ?_⟩
    show if (!atWhole ws i) = true then _ else _
    cases e : ws[i]? with
    | none =>
      rw [e] at k
      have ea : atWhole ws i = false := by unfold atWhole; rw [e]
      rw [ea]
      exact ⟨_, rfl, a, dx, wf q i, rfl, e1, rfl, a, ws, i, rfl, wd, k⟩
    | some x =>
      rw [e] at k
      have ea : atWhole ws i = wholeText x := by unfold atWhole; rw [e]
      rw [ea]
      have k' : if wholeText x = true then ∀ H' t b, Same H H' → H' t = some (.tup [.int (wholeNum x), .ref b]) → WdsAt K H' b ws (i + 1) → Q (.ref t) H' else BadAt K H E i := k
      have lx := wd.short x (List.mem_of_getElem? e)
      cases b : wholeText x with
      | false =>
        rw [b] at k'
        exact ⟨_, rfl, a, dx, wf q i, rfl, e1, rfl, a, ws, i, rfl, wd, k'⟩
      | true =>
        rw [b] at k'
        obtain ⟨w1, w2, w3⟩ := whole_digits b lx
        have ew : wAt ws i = .str x := by unfold wAt; rw [e]
        refine ⟨_, rfl, a, dx, wf q i, rfl, e1, rfl, a, ws, i, rfl, wd, ?_⟩
        rw [ew]
        refine ⟨x, _, rfl, by omega, w3, w2, w1, _, rfl, a, dx, wf q i, rfl, e1, rfl, a, ws, i, rfl, wd, ?_⟩
        rw [e]
        exact fun H' b' s wd' => ⟨(by decide : (2 : Nat) ≤ sizeLine), fun t nt => k' _ t b' (s.trans (same_new nt)) upd_same (wd'.same (same_new nt))⟩
theorem ok_w_end (T : Top w K mg) (M_refuse : MethX (L2.CX P w) P w K mg base (cW K) "refuse" 3 ["self"] (spRefuse K)) {f : Addr} (F : FunD K "end" "Words.end" (defArgs s_Words_end) (defBody s_Words_end) (defScope s_Words_end) [] [] f fd) : FnOk P w K mg base (L2.CX P w) 4 f fd ["self"] (spEnd K) := by
  refine F.ok sc_Words_end (fun vs H Q E h => ?_) (fun cdv A outer s H vs Q E hr h => ?_)
  · obtain ⟨a, ws, i, rfl, wd, k⟩ := h
    rfl
  · obtain ⟨a, ws, i, rfl, wd, k⟩ := h
    have hu := hr.units
    refine ⟨_, (pss_one (ps_if (pt_cmpR op_lt (pe_fld (pv 0) rfl) (pe_callB call_len rfl T.n_len (by decide +kernel) (pa_cons (pe_fld (pv 0) rfl) pa_nil)) (nomark _)) (pss_one (ps_expr (pe_mX0 M_refuse T.k_Words (hr.mono (by decide)) (passes_call (takes_of rfl rfl rfl rfl) (fun _ _ _ _ h => h)) (pv 0)))) pss_nil)), ?_⟩
    obtain ⟨dx, q, e1, e2⟩ := wd.ex
    refine ⟨_, rfl, a, cW K, dx, wf q i, _, rfl, e1, T.k_Words, T.a_Words_at, rfl, _, rfl, a, cW K, dx, wf q i, _, rfl, e1, T.k_Words, T.a_Words_words, rfl, _, _, rfl, len_sq (.inl (SqT.of e2)), _, _, rfl, rfl, _, rfl, ?_⟩
    rw [List.length_map]
    refine ite2 (fun c => ?_) (fun c => ?_)
    · have lt : i < ws.length := by have := of_decide_eq_true c; omega
      rw [if_pos lt] at k
      exact ⟨_, rfl, a, dx, wf q i, rfl, e1, rfl, a, ws, i, rfl, wd, k⟩
    · have ge : ¬ i < ws.length := fun z => c (decide_eq_true (by omega))
      rw [if_neg ge] at k
      exact k
theorem ok_words_of (T : Top w K mg) (R_BadText : RzX P w K mg base "BadText" (ca K 4) ["line", "word"]) (C_Words : MakeX CX0 P w K mg base "Words" (cW K) 1 ["self", "words", "at", "line"] [] (spWInit K)) {f : Addr}
    (F : FunD K "words_of" "words_of" (defArgs s_words_of) (defBody s_words_of) (defScope s_words_of) [.int 0] [] f fd) : FnOk P w K mg base (L2.CX P w) 4 f fd ["text", "line"] (spWordsOf K) := by
  refine F.ok sc_words_of (fun vs H Q E h => ?_) (fun cdv A outer s H vs Q E hr h => ?_)
  · obtain ⟨v, rfl, _⟩ := h
    rfl
  · obtain ⟨v, rfl, kd, k⟩ := h
    have hu := hr.units
    refine ⟨_, (pss_cons (ps_if (pt_not (pt_val (pe_callB call_isi rfl T.n_isinstance (by decide +kernel) (pa_cons (pv 0) (pa_cons (pe_bltn (v := .ty "str") (u := .type "str") rfl T.n_str (by decide +kernel) rfl) pa_nil))))) (pss_one (ps_rz R_BadText rfl (hr.mono (by decide)) (takes_of rfl rfl rfl rfl) rfl (pa_cons pe_int (pa_cons pe_int pa_nil)))) pss_nil)
      (pss_one (ps_ret (pe_mkX C_Words (hr.mono (by decide)) rfl pass_CX0 (pa_cons (pe_callTy call_tuple_of rfl T.n_tuple (by decide +kernel) (pa_cons (pe_bm PySem.F.plainAttrs_str PySem.F.slot_str_split PySem.F.type_str_split mt_split (pv 0) (pa_cons pe_str pa_nil)) pa_nil)) (pa_cons pe_int (pa_cons (pv 1) pa_nil))))))), ?_⟩
    obtain ⟨n, ty, ki, kb, ks⟩ := kd.ex
    refine ⟨_, rfl, _, _, _, _, _, rfl, .ty "str", ty, kit_ty ks, _, rfl, ?_⟩
    cases v with
    | str t =>
      obtain ⟨lt, few, short, k⟩ := k
      refine ⟨_, rfl, rfl, _, _, rfl, rfl, by decide +kernel, by rw [sizeLine_eq]; omega, fun q nq => ⟨_, _, rfl, .inl ⟨SqL.of upd_same, fun l nl => ⟨_, rfl, fun x dx nx ndx nex => ⟨x, l, 0, dx, rfl, upd_same, fun H' sm hx => ⟨rfl, ?_⟩⟩⟩⟩⟩⟩
      obtain ⟨s, wd⟩ := made_words (ws := Txt.split t " ") upd_same few short nx ndx nex.symm sm hx
      exact k _ _ (((same_new nq).trans (same_new nl)).trans s) wd
    | _ => exact rz_ok R_BadText rfl (by decide) fun d H2 s2 ex => k _ d s2 ex
end
end L2.K32
set_option Elab.async false
set_option linter.all false
set_option maxRecDepth 100000
set_option maxHeartbeats 4000000
/-! Which numbers of a unit can stand. -/
namespace L2.K32
open PySem PySem.Spec PyProof.Rows L2.RV
/-- whether the last of the numbers can stand -/
def lastOk (x : Str) (ns : List Int) : Bool := match ns.getLast? with
  | some n => numV x (ns.length - 1) (.int n)
  | none => true
def canStand (x : Str) (ns : List Int) (after : Int) (taken : List Str) : Bool :=
  lastOk x ns && (if (ns.length : Int) < numOf x then true else decide (after < rankOf x ns) && !(taken.any fun y => y == textOf x ns))
/-- can_stand(word, numbers, after, taken), all numbers but the last one being right -/
def spCanStand (K : PySem.W.Frag) : Sp := fun vs H Q _ => ∃ (x : Str) (p : Addr) (ns : List Int) (after : Int) (tk : Addr) (taken : List Str), vs = [.str x, .ref p, .int after, .ref tk] ∧ isWord x = true ∧ Sq K H p (ns.map V.int) ∧ SqT K H tk (taken.map V.str) ∧ ns.length ≤ 2 ∧
  (∀ j n, j + 1 < ns.length → ns[j]? = some n → numV x j (.int n) = true) ∧ ∀ H', Same H H' → Q (.bl (canStand x ns after taken)) H'
/-- numbers and not is_number(word, len(numbers) - 1, numbers[-1]) -/
theorem last_ok {K : PySem.W.Frag} {σ : L2.St} {H : Hp} {Q : Bool → Hp → Prop} {x : Str} {p : Addr} {ns : List Int} (v0 : σ[0]? = some (some (.str x))) (v1 : σ[1]? = some (some (.ref p))) (sq : Sq K H p (ns.map V.int)) (k : Q (!lastOk x ns) H) :
    tAnd (fun σ H Q => tVar 1 σ H fun x H' => ∃ k, TruV K x H' k ∧ Q k H') (tNot (tB (tCall (spNumber K) [] E0 (tCons (tVar 0) (tCons (tOp (rI0 fun i j => V.int (i - j)) (tCB (fun xs H Q => ∃ x n, xs = [x] ∧ LenV K x H n ∧ Q (V.int n) H) (tCons (tVar 1) tNil)) (tC (V.int 1))) (tCons (tOp (rIx K) (tVar 1) (tUn (rU fun i => V.int (-i)) (tC (V.int 1)))) tNil)))))) σ H Q := by
  refine ⟨_, v1, _, tru_sq sq, ?_⟩
  cases h : ns.getLast? with
  | none =>
    have e : ns = [] := List.getLast?_eq_none_iff.mp h
    subst e
    exact k
  | some n =>
    have ne : ns ≠ [] := fun z => by rw [z] at h; cases h
    have pos : 0 < ns.length := List.length_pos_iff.mpr ne
    have emp : (ns.map V.int).isEmpty = false := by
      cases ns with
      | nil => exact absurd rfl ne
      | cons a as => rfl
    rw [emp]
    have el : lastOk x ns = numV x (ns.length - 1) (.int n) := by
      unfold lastOk
      rw [h]
    rw [el] at k
    refine ⟨_, v0, _, v1, _, _, rfl, len_sq sq, _, _, rfl, rfl, _, v1, _, rfl, ix_sq sq (v := .int n) (atI_last (by rw [List.getLast?_map, h]; rfl)) ⟨x, _, _, rfl, kinds_int _, _, rfl, ?_⟩⟩
    have e1 : ((ns.length - 1 : Nat) : Int) = (((ns.map V.int).length : Nat) : Int) - 1 := by
      rw [List.length_map]
      omega
    have k' : Q (!(from_ (if x = "cell" ∧ ((ns.length - 1 : Nat) : Int) = 0 then 1 else 0) 99 (.int n))) H := k
    rw [e1] at k'
    exact k'
section
variable {P : Program} {w : World} {K : PySem.W.Frag} {mg : Str → Option Value} {h base : Heap} {fd : FuncData}
theorem ok_can_stand (T : Top w K mg) (D_is_number : Def P w K mg base "is_number" 3 ["word", "at", "value"] (spNumber K)) (D_rank : Def P w K mg base "rank" 2 ["word", "numbers"] (spRank K)) (D_text_of : Def P w K mg base "text_of" 1 ["word", "numbers"] (spTextOf K))
    (F : Fn K "can_stand" s_can_stand fd) : FnOk P w K mg base CX0 4 (He.ga K "can_stand") fd ["word", "numbers", "after", "taken"] (spCanStand K) := by
  refine F.ok sc_can_stand (fun vs H Q E h => ?_) (fun cdv A outer s H vs Q E hr h => ?_)
  · obtain ⟨x, p, ns, after, tk, taken, rfl, _⟩ := h
    rfl
  · obtain ⟨x, p, ns, after, tk, taken, rfl, hb, sq, st, few, good, k⟩ := h
    have hu := hr.units
    refine ⟨_, PSs.nox (pss_cons (ps_if (PW.pt (pw_and (pt_truth (pv 1) (by intro _; rfl)) (pw_and1 (pt_not (pt_val (pe_callD D_is_number (hr.mono (by decide)) rfl (pa_cons (pv 0) (pa_cons (pe_op op_sub (pe_callB call_len rfl T.n_len (by decide +kernel) (pa_cons (pv 1) pa_nil)) pe_int) (pa_cons (pe_ix ix_seq (pv 1) (pe_un un_neg pe_int) (fun _ _ => rfl)) pa_nil))))))))) (pss_one (ps_ret pe_bl)) pss_nil)
      (pss_cons (ps_if (pt_cmpR op_lt (pe_callB call_len rfl T.n_len (by decide +kernel) (pa_cons (pv 1) pa_nil)) (pe_ix ix_kdict (pe_glob (v := .ref (He.ga K "NUMBERS")) rfl T.g_NUMBERS rfl) (pv 0) (fun _ _ => rfl)) (nomark _)) (pss_one (ps_ret pe_bl)) pss_nil)
      (pss_one (ps_ret (pe_and (pe_cmpR op_gt (pe_callD D_rank (hr.mono (by decide)) rfl (pa_cons (pv 0) (pa_cons (pv 1) pa_nil))) (pv 2) (nomark _)) (pe_one (pe_cmpR op_notIn_seq (pe_callD D_text_of (hr.mono (by decide)) rfl (pa_cons (pv 0) (pa_cons (pv 1) pa_nil))) (pv 3) rfl))))))), ?_⟩
    refine last_ok rfl rfl sq ?_
    refine ite2 (fun c => ?_) (fun c => ?_)
    · have el : lastOk x ns = false := by
        cases q : lastOk x ns with
        | false => rfl
        | true => rw [q] at c; cases c
      have z := k H (fun _ _ z => z)
      unfold canStand at z
      rw [el] at z
      exact z
    have el : lastOk x ns = true := by
      cases q : lastOk x ns with
      | true => rfl
      | false => rw [q] at c; exact absurd rfl c
    unfold canStand at k
    rw [el, Bool.true_and] at k
    have n2 := numOf_le x
    refine ⟨_, rfl, _, _, rfl, len_sq sq, _, rfl, _, x, .int (numOf x), rfl, rfl, numbers_at T hb, _, _, rfl, rfl, _, rfl, ?_⟩
    rw [List.length_map]
    refine ite2 (fun c => ?_) (fun c => ?_)
    · have lt := of_decide_eq_true c
      rw [if_pos lt] at k
      exact k H fun _ _ z => z
    have ge : ¬ (ns.length : Int) < numOf x := fun z => c (decide_eq_true z)
    rw [if_neg ge] at k
    have all : ∀ n, n ∈ ns → 0 ≤ n ∧ n ≤ 99 := fun n hn => by
      obtain ⟨j, hj, rfl⟩ := List.getElem_of_mem hn
      by_cases z : j + 1 < ns.length
      · exact (numV_int (good j _ z (List.getElem?_eq_getElem hj))).2
      · have ej : j = ns.length - 1 := by omega
        have hl : ns.getLast? = some ns[j] := by
          rw [List.getLast?_eq_getElem?, ← ej, List.getElem?_eq_getElem hj]
        unfold lastOk at el
        rw [hl] at el
        exact (numV_int el).2
    refine ⟨_, rfl, _, rfl, x, p, ns, rfl, hb, sq, few, fun H1 s1 => ⟨_, rfl, _, _, rfl, rfl, ?_⟩⟩
    refine ⟨_, rfl, ?_⟩
    refine ite2 (fun c => ?_) (fun c => ?_)
    · have flat : (taken.map V.str).all flatV = true := List.all_eq_true.mpr fun v hv => by
        obtain ⟨y, _, rfl⟩ := List.mem_map.mp hv
        rfl
      refine ⟨_, rfl, _, rfl, x, p, ns, rfl, Nat.le_trans (word_text hb).1 (by decide), sq.keep (SqKeep.of_same s1), few, all, fun H2 s2 => ⟨_, rfl, tk, taken.map V.str, rfl, .inr (SqKeep.of_same (s1.trans s2) |>.1 st), rfl, flat, ?_⟩⟩
      have z := k _ (s1.trans s2)
      rw [c, Bool.true_and, ← in_strs] at z
      exact z
    · have cf : decide (after < rankOf x ns) = false := by
        cases q : decide (after < rankOf x ns) with
        | false => rfl
        | true => exact absurd q c
      have z := k _ s1
      rw [cf, Bool.false_and] at z
      exact z
end
end L2.K32
set_option Elab.async false
set_option linter.all false
set_option maxRecDepth 100000
set_option maxHeartbeats 4000000
/-! A unit taken from words. -/
namespace L2.K32
open PySem PySem.Spec PyProof.Rows L2.RV
/-- whether a word can begin a unit -/
def okWord (after : Int) (taken : List Str) (x : Str) : Bool := decide (0 < numOf x) || canStand x [] after taken
/-- the numbers that the next words tell -/
def numsR (ws : List Str) (x : Str) (after : Int) (taken : List Str) : Nat → Nat → List Int → Except Nat (List Int)
  | 0, _, ns => .ok ns
  | r + 1, i, ns => match ws[i]? with
    | some t => if (wholeText t && canStand x (ns ++ [wholeNum t]) after taken) = true then numsR ws x after taken r (i + 1) (ns ++ [wholeNum t]) else .error i
    | none => .error i
/-- the unit that the next words tell -/
def takeR (ws : List Str) (after : Int) (taken : List Str) (i : Nat) : Except Nat (Str × List Int) := match ws[i]? with
  | some x => if (isWord x && okWord after taken x) = true then (match numsR ws x after taken (numOf x).toNat (i + 1) [] with | .ok ns => .ok (x, ns) | .error j => .error j) else .error i
  | none => .error i
/-- take_unit(words, after, taken) -/
def spTakeUnit (K : PySem.W.Frag) : Sp := fun vs H Q E => ∃ (a : Addr) (ws : List Str) (i : Nat) (after : Int) (tk : Addr) (taken : List Str), vs = [.ref a, .int after, .ref tk] ∧ WdsAt K H a ws i ∧ SqT K H tk (taken.map V.str) ∧ match takeR ws after taken i with
  | .ok (x, ns) => ∀ H' t b, Same H H' → H' t = some (.tup [.str (textOf x ns), .ref b]) → WdsAt K H' b ws (i + 1 + ns.length) → Q (.ref t) H'
  | .error j => BadAt K H E j
theorem filter_any (us : List Str) (p : Str → Bool) (x : Str) : ((us.filter p).any fun y => y == x) = ((us.any fun y => y == x) && p x) := by
  induction us with
  | nil => rfl
  | cons u us ih =>
    by_cases e : u = x
    · subst e
      cases h : p u with
      | true =>
        rw [List.filter_cons_of_pos h, List.any_cons, List.any_cons, beq_self_eq_true, Bool.true_or, Bool.true_or]
        rfl
      | false =>
        rw [List.filter_cons_of_neg (by rw [h]; decide), ih, h, Bool.and_false, Bool.and_false]
    · have ne : (u == x) = false := beq_eq_false_iff_ne.mpr e
      rw [List.any_cons, ne, Bool.false_or, ← ih]
      cases h : p u with
      | true => rw [List.filter_cons_of_pos h, List.any_cons, ne, Bool.false_or]
      | false => rw [List.filter_cons_of_neg (by rw [h]; decide)]
theorem none_of {H H' : Hp} {b : Addr} (s : Same H H') (n : H' b = none) : H b = none := by
  cases e : H b with
  | none => rfl
  | some o =>
    rw [s b o e] at n
    cases n
/-- what stands apart from a list that grows -/
theorem WdsAt.apart {K : PySem.W.Frag} {H : Hp} {a l : Addr} {ws : List Str} {i : Nat} {xs ys : List V} (x : WdsAt K H a ws i) (hl : H l = some (.lst xs)) : WdsAt K (upd H l (.lst ys)) a ws i := by
  obtain ⟨⟨dx, q, e1, e2⟩, f, g⟩ := x
  have na : a ≠ l := fun z => by rw [z, hl] at e1; cases e1
  have nq : q ≠ l := fun z => by rw [z, hl] at e2; cases e2
  exact ⟨⟨dx, q, by rw [upd_ne na]; exact e1, by rw [upd_ne nq]; exact e2⟩, f, g⟩
/-- [name for name in UNIT_WORDS if NUMBERS[name] > 0 or can_stand(name, [], after, taken)] -/
theorem choices_ok {w : World} {K : PySem.W.Frag} {mg : Str → Option Value} (T : Top w K mg) {σ : L2.St} {H : Hp} {Q : VK} {after : Int} {tk : Addr} {taken : List Str} (v1 : σ[1]? = some (some (.int after))) (v2 : σ[2]? = some (some (.ref tk))) (l6 : 7 < σ.length) (st : SqT K H tk (taken.map V.str))
    (k : ∀ H' D, Same H H' → H' D = some (.lst ((units6.filter (okWord after taken)).map V.str)) → Q (.ref D) H') :
    tLc (iTup K (tC (.ref (He.ga K "UNIT_WORDS")))) (gName 7) (tOr (tTest (tOp (rI0 fun i j => .bl (decide (j < i))) (tOp (rIxD K w) (tC (.ref (He.ga K "NUMBERS"))) (tVar 7)) (tC (.int 0)))) (tB (tCall (spCanStand K) [] E0 (tCons (tVar 7) (tCons (tLstN tNil) (tCons (tVar 1) (tCons (tVar 2) tNil))))))) (tVar 7) [7] σ H Q := by
  refine ⟨_, rfl, ⟨_, T.t_UNIT_WORDS H⟩, fun D nD => ?_⟩
  refine lc_tup (xs := units6.map V.str) (fun n H' => Same H H' ∧ H' D = some (.lst (((units6.take n).filter (okWord after taken)).map V.str))) ⟨same_new nD, upd_same⟩ (fun n H' _ _ => T.t_UNIT_WORDS H') (fun n x H' hx p => ?_) (fun H' p => ?_)
  · rw [List.getElem?_map] at hx
    obtain ⟨u, hu, rfl⟩ := Option.map_eq_some_iff.mp hx
    have lt : n < units6.length := by
      rcases Nat.lt_or_ge n units6.length with z | z
      · exact z
      · rw [List.getElem?_eq_none z] at hu
        cases hu
    have hw : isWord u = true := List.any_eq_true.mpr ⟨u, List.mem_of_getElem? hu, beq_self_eq_true _⟩
    have et : units6.take (n + 1) = units6.take n ++ [u] := by
      rw [List.getElem?_eq_getElem lt] at hu
      cases hu
      exact (List.take_append_getElem lt).symm
    have g6 : ((wipe σ [7]).set 7 (some (V.str u)))[7]? = some (some (.str u)) := List.getElem?_set_self (by simp only [wipe, List.length_set]; exact l6)
    have g1 : ((wipe σ [7]).set 7 (some (V.str u)))[1]? = some (some (.int after)) := by
      simp only [wipe]
      rw [List.getElem?_set_ne (by decide), List.getElem?_set_ne (by decide)]
      exact v1
    have g2 : ((wipe σ [7]).set 7 (some (V.str u)))[2]? = some (some (.ref tk)) := by
      simp only [wipe]
      rw [List.getElem?_set_ne (by decide), List.getElem?_set_ne (by decide)]
      exact v2
    have small : ((units6.take n).filter (okWord after taken)).length ≤ 6 := Nat.le_trans (List.length_filter_le _ _) (by rw [List.length_take]; exact Nat.min_le_right _ _)
    refine ⟨by simp only [wipe, List.set_set], ?_⟩
    have fin : ∀ (b : Bool) (H3 : Hp), b = okWord after taken u → Same H' H3 → (if b = true then tVar 7 ((wipe σ [7]).set 7 (some (V.str u))) H3 (fun y H4 => ∃ acc, H4 D = some (.lst acc) ∧ acc.length < sizeLine ∧ (Same H (upd H4 D (.lst (acc ++ [y]))) ∧ (upd H4 D (.lst (acc ++ [y]))) D = some (.lst (((units6.take (n + 1)).filter (okWord after taken)).map V.str))))
        else (Same H H3 ∧ H3 D = some (.lst (((units6.take (n + 1)).filter (okWord after taken)).map V.str)))) := fun b H3 eb s3 => by
      rw [et, List.filter_append]
      cases b with
      | true =>
        refine ⟨_, g6, _, s3 _ _ p.2, by rw [List.length_map, sizeLine_eq]; omega, same_updN (p.1.trans s3) nD, ?_⟩
        rw [upd_same, List.filter_cons_of_pos eb.symm, List.filter_nil, List.map_append]
        rfl
      | false =>
        refine ⟨p.1.trans s3, ?_⟩
        rw [List.filter_cons_of_neg (by rw [← eb]; decide), List.filter_nil, List.append_nil]
        exact s3 _ _ p.2
    refine ⟨_, g6, _, u, .int (numOf u), rfl, rfl, numbers_at T hw, _, _, rfl, rfl, _, rfl, ?_⟩
    refine ite2 (fun c => ?_) (fun c => ?_)
    · exact fin true H' (by unfold okWord; rw [c, Bool.true_or]) fun _ _ z => z
    · have cf : decide (0 < numOf u) = false := by
        cases q : decide (0 < numOf u) with
        | false => rfl
        | true => exact absurd q c
      refine ⟨_, g6, (by decide : (0 : Nat) ≤ sizeLine), fun l nl _ => ⟨_, g1, _, g2, u, l, [], after, tk, taken, rfl, hw, .inr (SqL.of upd_same), SqKeep.of_same (p.1.trans (same_new nl)) |>.1 st, by decide, fun j _ h => absurd h (Nat.not_lt_zero _), fun H2 s2 => ⟨_, rfl, ?_⟩⟩⟩
      exact fin _ H2 (by unfold okWord; rw [cf, Bool.false_or]) ((same_new nl).trans s2)
  · exact k _ D p.1 p.2
section
variable {P : Program} {w : World} {K : PySem.W.Frag} {mg : Str → Option Value} {h base : Heap} {fd : FuncData}
theorem ok_take_unit (T : Top w K mg) (D_can_stand : Def P w K mg base "can_stand" 4 ["word", "numbers", "after", "taken"] (spCanStand K)) (D_whole_of : Def P w K mg base "whole_of" 1 ["word"] spWholeOf) (D_text_of : Def P w K mg base "text_of" 1 ["word", "numbers"] (spTextOf K))
    (M_peek : MethX CX0 P w K mg base (cW K) "peek" 1 ["self"] (spPeek K)) (M_refuse : MethX (L2.CX P w) P w K mg base (cW K) "refuse" 3 ["self"] (spRefuse K)) (M_is_at_whole : MethX CX0 P w K mg base (cW K) "is_at_whole" 3 ["self"] (spIsAtWhole K)) (M_take_one : MethX (L2.CX P w) P w K mg base (cW K) "take_one" 6 ["self", "choices"] (spTakeOne K)) (M_take_whole : MethX (L2.CX P w) P w K mg base (cW K) "take_whole" 5 ["self"] (spTakeWhole K))
    (F : Fn K "take_unit" s_take_unit fd) : FnOk P w K mg base (L2.CX P w) 7 (He.ga K "take_unit") fd ["words", "after", "taken"] (spTakeUnit K) := by
  refine F.ok sc_take_unit (fun vs H Q E h => ?_) (fun cdv A outer s H vs Q E hr h => ?_)
  · obtain ⟨a, ws, i, after, tk, taken, rfl, _⟩ := h
    rfl
  · obtain ⟨a, ws, i, after, tk, taken, rfl, wd, st, k⟩ := h
    have hu := hr.units
    refine ⟨_, (pss_cons (ps_setLc (i := 3) (own := [("name", 7)]) (g := gName 7) (te := tVar 7) (tt := tOr (tTest (tOp (rI0 fun i j => .bl (decide (j < i))) (tOp (rIxD K w) (tC (.ref (He.ga K "NUMBERS"))) (tVar 7)) (tC (.int 0)))) (tB (tCall (spCanStand K) [] E0 (tCons (tVar 7) (tCons (tLstN tNil) (tCons (tVar 1) (tCons (tVar 2) tNil))))))) (by rfl) sc_take_unit.nd rfl rfl (sw_true rfl rfl rfl (by decide +kernel)) (pi_tup (pe_glob (v := .ref (He.ga K "UNIT_WORDS")) rfl T.g_UNIT_WORDS rfl)) (blkOk_by (own := [("name", 7)]) (N := ["words", "after", "taken", "names", "numbers", "_", "word", "name", "number"]) (sc := defScope s_take_unit) (by decide +kernel)) (fun _ _ _ _ _ => by exact (pg_name (i := 7) sc_take_unit.nd rfl (by first | exact Or.inl rfl | exact Or.inr rfl))) (fun _ _ _ _ _ => by exact (pts_one (PW.pt (pw_or (pt_cmpR op_gt (pe_ix ix_kdict (pe_glob (v := .ref (He.ga K "NUMBERS")) rfl T.g_NUMBERS rfl) (pv 7) (fun _ _ => rfl)) pe_int (nomark _)) (pw_or1 (pt_val (pe_callD D_can_stand (hr.mono (by decide)) rfl (pa_cons (pv 7) (pa_cons (pe_lstN pa_nil) (pa_cons (pv 1) (pa_cons (pv 2) pa_nil))))))))))) (fun _ _ _ _ _ => by exact (pv 7)))
      (pss_cons (ps_asg (pe_mX M_take_one T.k_Words (hr.mono (by decide)) (passes_call (takes_of rfl rfl rfl rfl) (fun _ _ _ _ h => h)) (pv 0) (pa_cons (pv 3) pa_nil)) (pg_tup rfl (pgs_cons (pg_name (i := 6) sc_take_unit.nd rfl (by first | exact Or.inl rfl | exact Or.inr rfl)) (pgs_cons (pg_name (i := 0) sc_take_unit.nd rfl (by first | exact Or.inl rfl | exact Or.inr rfl)) pgs_nil))))
      (pss_cons (ps_set (i := 4) sc_take_unit.nd rfl (by first | exact Or.inl rfl | exact Or.inr rfl) (pe_lstN pa_nil))
      (pss_cons (ps_for (passes_of rfl) rfl (pi_range1 rfl T.n_range (pa_cons (pe_ix ix_kdict (pe_glob (v := .ref (He.ga K "NUMBERS")) rfl T.g_NUMBERS rfl) (pv 6) (fun _ _ => rfl)) pa_nil)) (pg_name (i := 5) sc_take_unit.nd rfl (by first | exact Or.inl rfl | exact Or.inr rfl)) (pss_cons (ps_if (PW.pt (pw_or (pt_not (pt_val (pe_mX0 M_is_at_whole T.k_Words (hr.mono (by decide)) pass_CX0 (pv 0)))) (pw_or1 (pt_not (pt_val (pe_callD D_can_stand (hr.mono (by decide)) rfl (pa_cons (pv 6) (pa_cons (pe_lstN (StX.pa_star (pv 4) (pa_cons (pe_callD D_whole_of (hr.mono (by decide)) rfl (pa_cons (pe_mX0 M_peek T.k_Words (hr.mono (by decide)) pass_CX0 (pv 0)) pa_nil)) pa_nil))) (pa_cons (pv 1) (pa_cons (pv 2) pa_nil)))))))))) (pss_one (ps_expr (pe_mX0 M_refuse T.k_Words (hr.mono (by decide)) (passes_call (takes_of rfl rfl rfl rfl) (fun _ _ _ _ h => h)) (pv 0)))) pss_nil)
      (pss_cons (ps_asg (pe_mX0 M_take_whole T.k_Words (hr.mono (by decide)) (passes_call (takes_of rfl rfl rfl rfl) (fun _ _ _ _ h => h)) (pv 0)) (pg_tup rfl (pgs_cons (pg_name (i := 8) sc_take_unit.nd rfl (by first | exact Or.inl rfl | exact Or.inr rfl)) (pgs_cons (pg_name (i := 0) sc_take_unit.nd rfl (by first | exact Or.inl rfl | exact Or.inr rfl)) pgs_nil))))
      (pss_one (ps_expr (pe_bm PySem.F.plainAttrs_list PySem.F.slot_list_append PySem.F.type_list_append mt_append (pv 4) (pa_cons (pv 8) pa_nil)))))))
      (pss_one (ps_ret (pe_tup (pa_cons (pe_callD D_text_of (hr.mono (by decide)) rfl (pa_cons (pv 6) (pa_cons (pv 4) pa_nil))) (pa_cons (pv 0) pa_nil))))))))), ?_⟩
    have sK := fun H' (z : Same H H') => SqKeep.of_same z |>.1 st
    refine set_of (choices_ok T rfl rfl (by show 7 < 9; decide) st fun H1 D s1 hD => ⟨_, rfl, ?_⟩)
    obtain ⟨dx, q, e1⟩ := (wd.same s1).ins
    refine ⟨a, dx, wf q i, rfl, e1, rfl, _, rfl, a, ws, i, D, units6.filter (okWord after taken), rfl, wd.same s1, .inl (SqL.of hD), ?_⟩
    unfold takeR at k
    cases hx : ws[i]? with
    | none =>
      rw [hx] at k
      exact BadAt.same k s1
    | some x =>
      rw [hx] at k
      have k1 : match (if (isWord x && okWord after taken x) = true then (match numsR ws x after taken (numOf x).toNat (i + 1) [] with | .ok ns => Except.ok (x, ns) | .error j => .error j) else Except.error i) with
        | .ok (x, ns) => ∀ H' t b, Same H H' → H' t = some (.tup [.str (textOf x ns), .ref b]) → WdsAt K H' b ws (i + 1 + ns.length) → Q (.ref t) H'
        | .error j => BadAt K H E j := k
      show if ((units6.filter (okWord after taken)).any fun y => y == x) = true then _ else _
      rw [filter_any]
      have ew : (units6.any fun y => y == x) = isWord x := rfl
      rw [ew]
      cases hok : isWord x && okWord after taken x with
      | false =>
        rw [hok] at k1
        exact BadAt.same k1 s1
      | true =>
        rw [hok] at k1
        have hb : isWord x = true := (Bool.and_eq_true_iff.mp hok).1
        intro H2 t b s12 ht wd2
        have s02 := s1.trans s12
        refine ⟨t, _, rfl, SqT.of ht, rfl, _, _, rfl, _, _, rfl, rfl, (by decide : (0 : Nat) ≤ sizeLine), fun l nl _ => ?_⟩
        have sl := s02.trans (same_new (o := .lst []) nl)
        have nl0 := none_of s02 nl
        have kN : match numsR ws x after taken (numOf x).toNat (i + 1) [] with
          | .ok ns => ∀ H' t b, Same H H' → H' t = some (.tup [.str (textOf x ns), .ref b]) → WdsAt K H' b ws (i + 1 + ns.length) → Q (.ref t) H'
          | .error j => BadAt K H E j := by
          have k2 : match (match numsR ws x after taken (numOf x).toNat (i + 1) [] with | .ok ns => Except.ok (x, ns) | .error j => .error j) with
            | .ok (x, ns) => ∀ H' t b, Same H H' → H' t = some (.tup [.str (textOf x ns), .ref b]) → WdsAt K H' b ws (i + 1 + ns.length) → Q (.ref t) H'
            | .error j => BadAt K H E j := k1
          cases hn : numsR ws x after taken (numOf x).toNat (i + 1) [] with
          | ok ns => rw [hn] at k2; exact k2
          | error j => rw [hn] at k2; exact k2
        clear k k1
        have nb := numOf_le x
        refine ⟨_, rfl, _, x, .int (numOf x), rfl, rfl, numbers_at T hb, numOf x, rfl, by omega, by omega, ?_⟩
        refine for_range (n := (numOf x).toNat) (fun n σ' H' => ∃ b' ns m1 m2, σ' = [some (.ref b'), some (.int after), some (.ref tk), some (.ref D), some (.ref l), m1, some (.str x), none, m2] ∧ ns.length = n ∧ H' l = some (.lst (ns.map V.int)) ∧ WdsAt K H' b' ws (i + 1 + n) ∧ Same H H' ∧
          (∀ j n', ns[j]? = some n' → numV x j (.int n') = true) ∧ numsR ws x after taken ((numOf x).toNat - n) (i + 1 + n) ns = numsR ws x after taken (numOf x).toNat (i + 1) []) ?_ ?_ ?_
        · exact ⟨b, [], none, none, rfl, rfl, upd_same, wd2.same (same_new nl), sl, fun j n' h => (by cases h), rfl⟩
        · rintro n σ' H' hn ⟨b', ns, m1, m2, rfl, hl, hL, wdn, sbn, good, eqn⟩
          obtain ⟨dxn, qn, f1⟩ := wdn.ins
          have er : (numOf x).toNat - n = ((numOf x).toNat - (n + 1)) + 1 := by omega
          rw [er] at eqn
          have bad : numsR ws x after taken (((numOf x).toNat - (n + 1)) + 1) (i + 1 + n) ns = .error (i + 1 + n) → ∀ H'', Same H' H'' → WdsAt K H'' b' ws (i + 1 + n) ∧ BadAt K H'' E (i + 1 + n) := fun e H'' s' => by
            refine ⟨wdn.same s', ?_⟩
            rw [← eqn, e] at kN
            exact BadAt.same kN (sbn.trans s')
          refine ⟨_, rfl, b', dxn, wf qn (i + 1 + n), rfl, f1, rfl, b', ws, i + 1 + n, rfl, wdn, _, rfl, ?_⟩
          show if (!atWhole ws (i + 1 + n)) = true then _ else _
          cases ht : ws[i + 1 + n]? with
          | none =>
            have ea : atWhole ws (i + 1 + n) = false := by unfold atWhole; rw [ht]
            rw [ea]
            obtain ⟨b1, b2⟩ := bad (by show (match ws[i + 1 + n]? with | some t => _ | none => _) = _; rw [ht]) H' fun _ _ z => z
            exact ⟨_, rfl, b', dxn, wf qn (i + 1 + n), rfl, f1, rfl, b', ws, i + 1 + n, rfl, b1, b2⟩
          | some t =>
            have ea : atWhole ws (i + 1 + n) = wholeText t := by unfold atWhole; rw [ht]
            rw [ea]
            have ue : numsR ws x after taken (((numOf x).toNat - (n + 1)) + 1) (i + 1 + n) ns = if (wholeText t && canStand x (ns ++ [wholeNum t]) after taken) = true then numsR ws x after taken ((numOf x).toNat - (n + 1)) (i + 1 + n + 1) (ns ++ [wholeNum t]) else .error (i + 1 + n) := by
              show (match ws[i + 1 + n]? with | some t => _ | none => _) = _
              rw [ht]
            cases hw : wholeText t with
            | false =>
              rw [hw] at ue
              obtain ⟨b1, b2⟩ := bad ue H' fun _ _ z => z
              exact ⟨_, rfl, b', dxn, wf qn (i + 1 + n), rfl, f1, rfl, b', ws, i + 1 + n, rfl, b1, b2⟩
            | true =>
              rw [hw, Bool.true_and] at ue
              have lt := wdn.short t (List.mem_of_getElem? ht)
              obtain ⟨w1, w2, w3⟩ := whole_digits hw lt
              have ewt : wAt ws (i + 1 + n) = .str t := by unfold wAt; rw [ht]
              refine ⟨_, rfl, _, rfl, l, _, rfl, .inr (SqL.of hL), _, rfl, b', dxn, wf qn (i + 1 + n), rfl, f1, rfl, b', ws, i + 1 + n, rfl, wdn, ?_⟩
              rw [ewt]
              refine ⟨t, _, rfl, by omega, w3, w2, w1, ?_⟩
              have eL : V.str t = .str t → (ns.map V.int ++ [V.int (if Txt.startswith t "-" = true then -((NumText.digitsVal (digitsOf t).cps.toList : Nat) : Int) else ((NumText.digitsVal (digitsOf t).cps.toList : Nat) : Int))]) = (ns ++ [wholeNum t]).map V.int := fun _ => by
                rw [List.map_append]
                rfl
              refine ⟨by rw [List.length_append, List.length_map, sizeLine_eq]; show ns.length + 1 ≤ _; omega, fun l2 n2 _ => ?_⟩
              rw [eL rfl]
              have s2' := same_new (o := .lst ((ns ++ [wholeNum t]).map V.int)) n2
              have len2 : (ns ++ [wholeNum t]).length ≤ 2 := by rw [List.length_append]; show ns.length + 1 ≤ 2; omega
              refine ⟨_, rfl, _, rfl, x, l2, ns ++ [wholeNum t], after, tk, taken, rfl, hb, .inr (SqL.of upd_same), sK _ (sbn.trans s2'), len2, fun j m hj hm => ?_, fun H3 s3 => ⟨_, rfl, ?_⟩⟩
              · have lt' : j < ns.length := by
                  rw [List.length_append] at hj
                  have : j + 1 < ns.length + 1 := hj
                  omega
                rw [List.getElem?_append_left lt'] at hm
                exact good j m hm
              have s3' := s2'.trans s3
              show if (!canStand x (ns ++ [wholeNum t]) after taken) = true then _ else _
              cases hc : canStand x (ns ++ [wholeNum t]) after taken with
              | false =>
                rw [hc] at ue
                obtain ⟨b1, b2⟩ := bad ue H3 s3'
                exact ⟨_, rfl, b', dxn, wf qn (i + 1 + n), rfl, s3' _ _ f1, rfl, b', ws, i + 1 + n, rfl, b1, b2⟩
              | true =>
                rw [hc] at ue
                have ue' : numsR ws x after taken (((numOf x).toNat - (n + 1)) + 1) (i + 1 + n) ns = numsR ws x after taken ((numOf x).toNat - (n + 1)) (i + 1 + n + 1) (ns ++ [wholeNum t]) := ue
                refine ⟨_, rfl, b', dxn, wf qn (i + 1 + n), rfl, s3' _ _ f1, rfl, b', ws, i + 1 + n, rfl, wdn.same s3', ?_⟩
                rw [ht]
                show if wholeText t = true then _ else _
                rw [hw]
                intro H4 t4 b4 s34 ht4 wd4
                have s04 := (sbn.trans s3').trans s34
                have hL4 := s34 _ _ (s3' _ _ hL)
                have lastN : numV x n (.int (wholeNum t)) = true := by
                  unfold canStand lastOk at hc
                  rw [List.getLast?_concat, List.length_append] at hc
                  have z := (Bool.and_eq_true_iff.mp hc).1
                  have e : ns.length + [wholeNum t].length - 1 = n := by show ns.length + 1 - 1 = n; omega
                  rw [e] at z
                  exact z
                refine ⟨t4, _, rfl, SqT.of ht4, rfl, _, _, rfl, _, _, rfl, rfl, ?_⟩
                refine ⟨_, rfl, .inl ⟨rfl, _, SqL.of hL4⟩, _, rfl, l, _, _, rfl, rfl, hL4, by rw [List.length_map, sizeLine_eq]; omega, b4, ns ++ [wholeNum t], _, _, rfl, by rw [List.length_append]; show ns.length + 1 = n + 1; omega, ?_, ?_, ?_, ?_, ?_⟩
                · rw [upd_same, List.map_append]
                  rfl
                · exact wd4.apart hL4
                · exact same_updN s04 nl0
                · intro j m hm
                  rcases Nat.lt_or_ge j ns.length with z | z
                  · rw [List.getElem?_append_left z] at hm
                    exact good j m hm
                  · rw [List.getElem?_append_right z] at hm
                    have ej : j = ns.length := by
                      rcases Nat.lt_or_ge (j - ns.length) 1 with y | y
                      · omega
                      · rw [List.getElem?_eq_none y] at hm
                        cases hm
                    subst ej
                    rw [Nat.sub_self] at hm
                    cases hm
                    rw [hl]
                    exact lastN
                · exact ue'.symm.trans eqn
        · rintro σ' H' ⟨b', ns, m1, m2, rfl, hl, hL, wdn, sbn, good, eqn⟩
          rw [Nat.sub_self] at eqn
          have eqn' : numsR ws x after taken (numOf x).toNat (i + 1) [] = .ok ns := eqn.symm
          rw [eqn'] at kN
          refine ⟨_, rfl, _, rfl, x, l, ns, rfl, Nat.le_trans (word_text hb).1 (by decide), .inr (SqL.of hL), by omega, fun n hn => ?_, fun H3 s3 => ⟨_, rfl, (by decide : (2 : Nat) ≤ sizeLine), fun t3 nt3 => kN _ t3 b' ((sbn.trans s3).trans (same_new nt3)) upd_same (by rw [hl]; exact (wdn.same s3).same (same_new nt3))⟩⟩
          obtain ⟨j, hj, rfl⟩ := List.getElem_of_mem hn
          exact (numV_int (good j _ (List.getElem?_eq_getElem hj))).2
end
end L2.K32
set_option Elab.async false
set_option linter.all false
set_option maxRecDepth 100000
set_option maxHeartbeats 4000000
/-! Units taken from words. -/
namespace L2.K32
open PySem PySem.Spec PyProof.Rows L2.RV
theorem nums_ok {ws : List Str} {x : Str} {after : Int} {taken : List Str} : ∀ {r i : Nat} {ns ns' : List Int}, numsR ws x after taken r i ns = .ok ns' → (∀ (j : Nat) (n : Int), ns[j]? = some n → numV x j (.int n) = true) → ns'.length = ns.length + r ∧ ∀ (j : Nat) (n : Int), ns'[j]? = some n → numV x j (.int n) = true
  | 0, i, ns, ns', h, g => by
    cases h
    exact ⟨rfl, g⟩
  | r + 1, i, ns, ns', h, g => by
    unfold numsR at h
    split at h
    · rename_i t ht
      split at h
      · rename_i c
        have hc := (Bool.and_eq_true_iff.mp c).2
        have lastN : numV x ns.length (.int (wholeNum t)) = true := by
          unfold canStand lastOk at hc
          rw [List.getLast?_concat, List.length_append] at hc
          have z := (Bool.and_eq_true_iff.mp hc).1
          have e : ns.length + [wholeNum t].length - 1 = ns.length := by show ns.length + 1 - 1 = ns.length; omega
          rw [e] at z
          exact z
        obtain ⟨l, a⟩ := nums_ok h (fun j m hm => by
          rcases Nat.lt_or_ge j ns.length with z | z
          · rw [List.getElem?_append_left z] at hm
            exact g j m hm
          · rw [List.getElem?_append_right z] at hm
            have ej : j = ns.length := by
              rcases Nat.lt_or_ge (j - ns.length) 1 with y | y
              · omega
              · rw [List.getElem?_eq_none y] at hm
                cases hm
            subst ej
            rw [Nat.sub_self] at hm
            cases hm
            exact lastN)
        refine ⟨?_, a⟩
        rw [l, List.length_append]
        show ns.length + 1 + r = ns.length + (r + 1)
        omega
      · cases h
    · cases h
theorem take_parts {ws : List Str} {after : Int} {taken : List Str} {i : Nat} {x : Str} {ns : List Int} (h : takeR ws after taken i = .ok (x, ns)) : Parts x ns := by
  unfold takeR at h
  split at h
  · split at h
    · rename_i y hy c
      have hb := (Bool.and_eq_true_iff.mp c).1
      split at h
      · rename_i ns' hn
        cases h
        obtain ⟨l, a⟩ := nums_ok hn (fun j n e => by cases e)
        refine ⟨hb, ?_, a⟩
        have nb := numOf_le x
        rw [l]
        show (((0 : Nat) + (numOf x).toNat : Nat) : Int) = numOf x
        omega
      · cases h
    · cases h
  · cases h
/-- further units, each behind a comma -/
def loopR (ws : List Str) (taken : List Str) : Nat → Nat → Int → List Str → Except Nat (List Str × Nat)
  | 0, i, _, acc => if ws[i]? = some ("," : Str) then .error i else .ok (acc, i)
  | f + 1, i, r, acc => if ws[i]? = some ("," : Str) then (match takeR ws r taken (i + 1) with
    | .error j => .error j
    | .ok (x, ns) => loopR ws taken f (i + 1 + 1 + ns.length) (rankOf x ns) (acc ++ [textOf x ns])) else .ok (acc, i)
theorem loop_stop {ws taken : List Str} {f i : Nat} {r : Int} {acc : List Str} (h : ws[i]? ≠ some ("," : Str)) : loopR ws taken f i r acc = .ok (acc, i) := by
  cases f with
  | zero => show (if ws[i]? = some ("," : Str) then _ else _) = _; rw [if_neg h]
  | succ f => show (if ws[i]? = some ("," : Str) then _ else _) = _; rw [if_neg h]
theorem loop_go {ws taken : List Str} {f i : Nat} {r : Int} {acc : List Str} (h : ws[i]? = some ("," : Str)) : loopR ws taken (f + 1) i r acc = match takeR ws r taken (i + 1) with
    | .error j => .error j
    | .ok (x, ns) => loopR ws taken f (i + 1 + 1 + ns.length) (rankOf x ns) (acc ++ [textOf x ns]) := by
  show (if ws[i]? = some ("," : Str) then _ else _) = _
  rw [if_pos h]
/-- at least one unit -/
def someR (ws : List Str) (taken : List Str) (i : Nat) : Except Nat (List Str × Nat) := match takeR ws (-1) taken i with
  | .error j => .error j
  | .ok (x, ns) => loopR ws taken ws.length (i + 1 + ns.length) (rankOf x ns) [textOf x ns]
/-- take_some_units(words, taken) -/
def spTakeSome (K : PySem.W.Frag) : Sp := fun vs H Q E => ∃ (a : Addr) (ws : List Str) (i : Nat) (tk : Addr) (taken : List Str), vs = [.ref a, .ref tk] ∧ WdsAt K H a ws i ∧ SqT K H tk (taken.map V.str) ∧ match someR ws taken i with
  | .ok (L, j) => ∀ H' t p b, Same H H' → H' t = some (.tup [.ref p, .ref b]) → H' p = some (.tup (L.map V.str)) → WdsAt K H' b ws j → Q (.ref t) H'
  | .error j => BadAt K H E j
section
variable {P : Program} {w : World} {K : PySem.W.Frag} {mg : Str → Option Value} {h base : Heap} {fd : FuncData}
theorem ok_take_some_units (T : Top w K mg) (D_take_unit : DefX (L2.CX P w) P w K mg base "take_unit" 7 ["words", "after", "taken"] (spTakeUnit K)) (D_rank_of : Def P w K mg base "rank_of" 6 ["unit"] (spRankOf K)) (M_peek : MethX CX0 P w K mg base (cW K) "peek" 1 ["self"] (spPeek K)) (M_behind : MethX (L2.CX P w) P w K mg base (cW K) "behind" 4 ["self"] (spBehind K))
    (F : Fn K "take_some_units" s_take_some_units fd) : FnOk P w K mg base (L2.CX P w) 8 (He.ga K "take_some_units") fd ["words", "taken"] (spTakeSome K) := by
  refine F.ok sc_take_some_units (fun vs H Q E h => ?_) (fun cdv A outer s H vs Q E hr h => ?_)
  · obtain ⟨a, ws, i, tk, taken, rfl, _⟩ := h
    rfl
  · obtain ⟨a, ws, i, tk, taken, rfl, wd, st, k⟩ := h
    have hu := hr.units
    refine ⟨_, (pss_cons (ps_asg (pe_callX D_take_unit (hr.mono (by decide)) rfl (passes_call (takes_of rfl rfl rfl rfl) (fun _ _ _ _ h => h)) (pa_cons (pv 0) (pa_cons (pe_un un_neg pe_int) (pa_cons (pv 1) pa_nil)))) (pg_tup rfl (pgs_cons (pg_name (i := 3) sc_take_some_units.nd rfl (by first | exact Or.inl rfl | exact Or.inr rfl)) (pgs_cons (pg_name (i := 0) sc_take_some_units.nd rfl (by first | exact Or.inl rfl | exact Or.inr rfl)) pgs_nil))))
      (pss_cons (ps_set (i := 2) sc_take_some_units.nd rfl (by first | exact Or.inl rfl | exact Or.inr rfl) (pe_lstN (pa_cons (pv 3) pa_nil)))
      (pss_cons (ps_while (passes_of rfl) (pt_cmpR (op_same hu) (pe_mX0 M_peek T.k_Words (hr.mono (by decide)) pass_CX0 (pv 0)) pe_str (nomark _)) (pss_cons (ps_asg (pe_callX D_take_unit (hr.mono (by decide)) rfl (passes_call (takes_of rfl rfl rfl rfl) (fun _ _ _ _ h => h)) (pa_cons (pe_mX0 M_behind T.k_Words (hr.mono (by decide)) (passes_call (takes_of rfl rfl rfl rfl) (fun _ _ _ _ h => h)) (pv 0)) (pa_cons (pe_callD D_rank_of (hr.mono (by decide)) rfl (pa_cons (pv 3) pa_nil)) (pa_cons (pv 1) pa_nil)))) (pg_tup rfl (pgs_cons (pg_name (i := 3) sc_take_some_units.nd rfl (by first | exact Or.inl rfl | exact Or.inr rfl)) (pgs_cons (pg_name (i := 0) sc_take_some_units.nd rfl (by first | exact Or.inl rfl | exact Or.inr rfl)) pgs_nil))))
      (pss_one (ps_expr (pe_bm PySem.F.plainAttrs_list PySem.F.slot_list_append PySem.F.type_list_append mt_append (pv 2) (pa_cons (pv 3) pa_nil))))))
      (pss_one (ps_ret (pe_tup (pa_cons (pe_callTy call_tuple_of rfl T.n_tuple (by decide +kernel) (pa_cons (pv 2) pa_nil)) (pa_cons (pv 0) pa_nil)))))))), ?_⟩
    have sK := fun H' (z : Same H H') => SqKeep.of_same z |>.1 st
    refine ⟨_, rfl, _, rfl, _, rfl, a, ws, i, -1, tk, taken, rfl, wd, st, ?_⟩
    unfold someR at k
    cases ht : takeR ws (-1) taken i with
    | error j =>
      rw [ht] at k
      exact k
    | ok xn =>
      obtain ⟨x0, ns0⟩ := xn
      rw [ht] at k
      have k' : match loopR ws taken ws.length (i + 1 + ns0.length) (rankOf x0 ns0) [textOf x0 ns0] with
        | .ok (L, j) => ∀ H' t p b, Same H H' → H' t = some (.tup [.ref p, .ref b]) → H' p = some (.tup (L.map V.str)) → WdsAt K H' b ws j → Q (.ref t) H'
        | .error j => BadAt K H E j := k
      clear k
      intro H1 t b s1 ht1 wd1
      refine ⟨t, _, rfl, SqT.of ht1, rfl, _, _, rfl, _, _, rfl, rfl, _, rfl, (by decide : (1 : Nat) ≤ sizeLine), fun u nu _ => ?_⟩
      have su := s1.trans (same_new (o := .lst [.str (textOf x0 ns0)]) nu)
      have nu0 := none_of s1 nu
      refine ⟨fun m σ' H' => ∃ b' i' r acc f y ns, m = ws.length - i' ∧ σ' = [some (.ref b'), some (.ref tk), some (.ref u), some (.str (textOf y ns))] ∧ H' u = some (.lst (acc.map V.str)) ∧ acc.length ≤ i' ∧ (Parts y ns ∧ r = rankOf y ns) ∧ WdsAt K H' b' ws i' ∧ Same H H' ∧ ws.length ≤ f + i' ∧
        loopR ws taken f i' r acc = loopR ws taken ws.length (i + 1 + ns0.length) (rankOf x0 ns0) [textOf x0 ns0], ⟨_, b, i + 1 + ns0.length, _, [textOf x0 ns0], ws.length, x0, ns0, rfl, rfl, upd_same, by show 1 ≤ _; omega, ⟨take_parts ht, rfl⟩, wd1.same (same_new nu), su, by omega, rfl⟩, ?_⟩
      rintro m σ' H' ⟨b', i', r, acc, f, y, ns, rfl, rfl, hU, al, ⟨pa, rfl⟩, wdi, sbi, fuel, eqn⟩
      obtain ⟨dx', q', f1⟩ := wdi.ins
      refine ⟨_, rfl, b', dx', wf q' i', rfl, f1, rfl, b', ws, i', rfl, wdi, .inl ⟨?_, _, rfl, ?_⟩⟩
      · unfold wAt
        split <;> rfl
      · by_cases hc : ws[i']? = some ("," : Str)
        · have ew : wAt ws i' = .str "," := by unfold wAt; rw [hc]
          rw [ew]
          have li : i' < ws.length := by
            rcases Nat.lt_or_ge i' ws.length with z | z
            · exact z
            · rw [List.getElem?_eq_none z] at hc
              cases hc
          obtain ⟨f', rfl⟩ : ∃ f', f = f' + 1 := ⟨f - 1, by omega⟩
          rw [loop_go hc] at eqn
          show if decide (V.str "," = V.str ",") = true then _ else _
          rw [if_pos (decide_eq_true rfl)]
          refine ⟨fun σ2 H2 => ∃ b2 i2 r acc f y ns, i' < i2 ∧ σ2 = [some (.ref b2), some (.ref tk), some (.ref u), some (.str (textOf y ns))] ∧ H2 u = some (.lst (acc.map V.str)) ∧ acc.length ≤ i2 ∧ (Parts y ns ∧ r = rankOf y ns) ∧ WdsAt K H2 b2 ws i2 ∧ Same H H2 ∧ ws.length ≤ f + i2 ∧
            loopR ws taken f i2 r acc = loopR ws taken ws.length (i + 1 + ns0.length) (rankOf x0 ns0) [textOf x0 ns0], fun σ2 H2 ⟨b2, i2, r, acc, f, y, ns, lt, rest⟩ => ⟨ws.length - i2, by omega, b2, i2, r, acc, f, y, ns, rfl, rest⟩, ?_⟩
          refine ⟨_, rfl, b', dx', wf q' i', rfl, f1, rfl, b', ws, i', rfl, wdi, ?_⟩
          rw [hc]
          intro H2 b2 s2 wd2
          refine ⟨_, rfl, y, ns, rfl, pa, fun H3 s3 => ⟨_, rfl, b2, ws, i' + 1, _, tk, taken, rfl, wd2.same s3, sK _ ((sbi.trans s2).trans s3), ?_⟩⟩
          have s03 := (sbi.trans s2).trans s3
          cases ht2 : takeR ws (rankOf y ns) taken (i' + 1) with
          | error j =>
            rw [ht2] at eqn
            rw [← eqn] at k'
            exact BadAt.same k' s03
          | ok xn =>
            obtain ⟨x1, ns1⟩ := xn
            rw [ht2] at eqn
            intro H4 t4 b4 s4 ht4 wd4
            have s04 := s03.trans s4
            have hU4 := s4 _ _ (s3 _ _ (s2 _ _ hU))
            have few := wd.few
            refine ⟨t4, _, rfl, SqT.of ht4, rfl, _, _, rfl, _, _, rfl, rfl, ?_⟩
            refine ⟨_, rfl, .inl ⟨rfl, _, SqL.of hU4⟩, _, rfl, u, _, _, rfl, rfl, hU4, by rw [List.length_map, sizeLine_eq]; omega, b4, i' + 1 + 1 + ns1.length, _, acc ++ [textOf x1 ns1], f', x1, ns1, by omega, rfl, ?_, ?_, ⟨take_parts ht2, rfl⟩, wd4.apart hU4, same_updN s04 nu0, by omega, eqn⟩
            · rw [upd_same, List.map_append]
              rfl
            · rw [List.length_append]
              show acc.length + 1 ≤ _
              omega
        · have ne : wAt ws i' ≠ .str "," := fun z => by
            unfold wAt at z
            split at z
            · rename_i x hx
              cases z
              exact hc hx
            · cases z
          show if decide (wAt ws i' = V.str ",") = true then _ else _
          rw [if_neg (by rw [decide_eq_false ne]; decide)]
          rw [← eqn, loop_stop hc] at k'
          refine ⟨_, rfl, u, _, rfl, .inl ⟨SqL.of hU, fun l nl => ⟨_, rfl, (by decide : (2 : Nat) ≤ sizeLine), fun t3 nt3 => ?_⟩⟩⟩
          have sl := same_new (o := .tup (acc.map V.str)) nl
          have st3 := same_new (o := .tup [.ref l, .ref b']) nt3
          exact k' _ t3 l b' ((sbi.trans sl).trans st3) upd_same (st3 _ _ upd_same) ((wdi.same sl).same st3)
end
end L2.K32
set_option Elab.async false
set_option linter.all false
set_option maxRecDepth 100000
set_option maxHeartbeats 4000000
/-! Units read from a text. -/
namespace L2.K32
open PySem PySem.Spec PyProof.Rows L2.RV
def unitsR (ws : List Str) (i : Nat) : Except Nat (List Str × Nat) := if ws[i]? = some ("-" : Str) then .ok ([], i + 1) else someR ws [] i
def readR (ws : List Str) : Except Nat (List Str) := match unitsR ws 0 with
  | .error j => .error j
  | .ok (L, j) => if j < ws.length then .error j else .ok L
def spTakeUnits (K : PySem.W.Frag) : Sp := fun vs H Q E => ∃ (a : Addr) (ws : List Str) (i : Nat), vs = [.ref a] ∧ WdsAt K H a ws i ∧ match unitsR ws i with
  | .ok (L, j) => ∀ H' t p b, Same H H' → H' t = some (.tup [.ref p, .ref b]) → H' p = some (.tup (L.map V.str)) → WdsAt K H' b ws j → Q (.ref t) H'
  | .error j => BadAt K H E j
/-- read_units(text) -/
def spRead (K : PySem.W.Frag) : Sp := fun vs H Q E => ∃ v, vs = [v] ∧ (∀ H', Same H H' → Kinds K H' v) ∧ match v with
  | .str t => t.length ≤ 60000 ∧ (Txt.split t " ").length ≤ 1000 ∧ (∀ y, y ∈ Txt.split t " " → y.length ≤ 50) ∧ match readR (Txt.split t " ") with
    | .ok L => ∀ H' p, Same H H' → H' p = some (.tup (L.map V.str)) → Q (.ref p) H'
    | .error j => BadAt K H E j
  | _ => BadAt K H E 0
section
variable {P : Program} {w : World} {K : PySem.W.Frag} {mg : Str → Option Value} {h base : Heap} {fd : FuncData}
theorem ok_take_units (T : Top w K mg) (D_take_some_units : DefX (L2.CX P w) P w K mg base "take_some_units" 8 ["words", "taken"] (spTakeSome K)) (M_peek : MethX CX0 P w K mg base (cW K) "peek" 1 ["self"] (spPeek K)) (M_behind : MethX (L2.CX P w) P w K mg base (cW K) "behind" 4 ["self"] (spBehind K))
    (F : Fn K "take_units" s_take_units fd) : FnOk P w K mg base (L2.CX P w) 9 (He.ga K "take_units") fd ["words"] (spTakeUnits K) := by
  refine F.ok sc_take_units (fun vs H Q E h => ?_) (fun cdv A outer s H vs Q E hr h => ?_)
  · obtain ⟨a, ws, i, rfl, _⟩ := h
    rfl
  · obtain ⟨a, ws, i, rfl, wd, k⟩ := h
    have hu := hr.units
    refine ⟨_, (pss_cons (ps_if (pt_cmpR (op_same hu) (pe_mX0 M_peek T.k_Words (hr.mono (by decide)) pass_CX0 (pv 0)) pe_str (nomark _)) (pss_one (ps_ret (pe_tup (pa_cons (pe_tup pa_nil) (pa_cons (pe_mX0 M_behind T.k_Words (hr.mono (by decide)) (passes_call (takes_of rfl rfl rfl rfl) (fun _ _ _ _ h => h)) (pv 0)) pa_nil))))) pss_nil)
      (pss_one (ps_ret (pe_callX D_take_some_units (hr.mono (by decide)) rfl (passes_call (takes_of rfl rfl rfl rfl) (fun _ _ _ _ h => h)) (pa_cons (pv 0) (pa_cons (pe_tup pa_nil) pa_nil)))))), ?_⟩
    obtain ⟨dx, q, e1⟩ := wd.ins
    refine ⟨_, rfl, a, dx, wf q i, rfl, e1, rfl, a, ws, i, rfl, wd, .inl ⟨?_, _, rfl, ?_⟩⟩
    · unfold wAt
      split <;> rfl
    · unfold unitsR at k
      by_cases hc : ws[i]? = some ("-" : Str)
      · have ew : wAt ws i = .str "-" := by unfold wAt; rw [hc]
        rw [ew]
        rw [if_pos hc] at k
        show if decide (V.str "-" = V.str "-") = true then _ else _
        rw [if_pos (decide_eq_true rfl)]
        refine ⟨(by decide : (0 : Nat) ≤ sizeLine), fun p np => ?_⟩
        have s1 := same_new (o := .tup []) np
        refine ⟨_, rfl, a, dx, wf q i, rfl, s1 _ _ e1, rfl, a, ws, i, rfl, wd.same s1, ?_⟩
        rw [hc]
        intro H1 b s2 wd2
        refine ⟨(by decide : (2 : Nat) ≤ sizeLine), fun t nt => ?_⟩
        have s3 := same_new (o := .tup [.ref p, .ref b]) nt
        exact k _ t p b ((s1.trans s2).trans s3) upd_same (s3 _ _ (s2 _ _ upd_same)) (wd2.same s3)
      · have ne : wAt ws i ≠ .str "-" := fun z => by
          unfold wAt at z
          split at z
          · rename_i x hx
            cases z
            exact hc hx
          · cases z
        rw [if_neg hc] at k
        show if decide (wAt ws i = V.str "-") = true then _ else _
        rw [if_neg (by rw [decide_eq_false ne]; decide)]
        refine ⟨_, rfl, (by decide : (0 : Nat) ≤ sizeLine), fun tk ntk => ⟨a, ws, i, tk, [], rfl, wd.same (same_new ntk), SqT.of upd_same, ?_⟩⟩
        have s2 := same_new (o := .tup []) ntk
        cases hs : someR ws [] i with
        | error j =>
          rw [hs] at k
          exact BadAt.same k s2
        | ok Lj =>
          obtain ⟨L, j⟩ := Lj
          rw [hs] at k
          exact fun H' t p b s' => k H' t p b (s2.trans s')
theorem ok_read_units (T : Top w K mg) (D_words_of : DefXD (L2.CX P w) P w K mg base "words_of" 4 ["text", "line"] [.int 0] (spWordsOf K)) (D_take_units : DefX (L2.CX P w) P w K mg base "take_units" 9 ["words"] (spTakeUnits K)) (M_end : MethX (L2.CX P w) P w K mg base (cW K) "end" 4 ["self"] (spEnd K))
    (F : Fn K "read_units" s_read_units fd) : FnOk P w K mg base (L2.CX P w) 10 (He.ga K "read_units") fd ["text"] (spRead K) := by
  refine F.ok sc_read_units (fun vs H Q E h => ?_) (fun cdv A outer s H vs Q E hr h => ?_)
  · obtain ⟨v, rfl, _⟩ := h
    rfl
  · obtain ⟨v, rfl, kd, k⟩ := h
    have hu := hr.units
    refine ⟨_, (pss_cons (ps_asg (pe_callX D_take_units (hr.mono (by decide)) rfl (passes_call (takes_of rfl rfl rfl rfl) (fun _ _ _ _ h => h)) (pa_cons (pe_callXD D_words_of (hr.mono (by decide)) rfl (passes_call (takes_of rfl rfl rfl rfl) (fun _ _ _ _ h => h)) (pa_cons (pv 0) pa_nil)) pa_nil)) (pg_tup rfl (pgs_cons (pg_name (i := 1) sc_read_units.nd rfl (by first | exact Or.inl rfl | exact Or.inr rfl)) (pgs_cons (pg_name (i := 2) sc_read_units.nd rfl (by first | exact Or.inl rfl | exact Or.inr rfl)) pgs_nil))))
      (pss_cons (ps_expr (pe_mX0 M_end T.k_Words (hr.mono (by decide)) (passes_call (takes_of rfl rfl rfl rfl) (fun _ _ _ _ h => h)) (pv 2)))
      (pss_one (ps_ret (pv 1))))), ?_⟩
    refine ⟨_, rfl, v, rfl, kd H (fun _ _ z => z), ?_⟩
    cases v with
    | str t =>
      obtain ⟨l1, l2, l3, k⟩ := k
      refine ⟨l1, l2, l3, fun H1 b sb1 wd1 => ⟨b, _, 0, rfl, wd1, ?_⟩⟩
      generalize Txt.split t " " = ws at k wd1
      unfold readR at k
      cases hu : unitsR ws 0 with
      | error j =>
        rw [hu] at k
        exact BadAt.same k sb1
      | ok Lj =>
        obtain ⟨L, j⟩ := Lj
        rw [hu] at k
        have k' : match (if j < ws.length then Except.error j else Except.ok L) with
          | .ok L => ∀ H' p, Same H H' → H' p = some (.tup (L.map V.str)) → Q (.ref p) H'
          | .error j => BadAt K H E j := k
        intro H2 t2 p b2 sb2 ht2 hp wd2
        refine ⟨t2, _, rfl, SqT.of ht2, rfl, _, _, rfl, _, _, rfl, rfl, ?_⟩
        obtain ⟨dx2, q2, g1⟩ := wd2.ins
        refine ⟨_, rfl, b2, dx2, wf q2 j, rfl, g1, rfl, b2, ws, j, rfl, wd2, ?_⟩
        by_cases c : j < ws.length
        · rw [if_pos c] at k' ⊢
          exact BadAt.same k' (sb1.trans sb2)
        · rw [if_neg c] at k' ⊢
          exact ⟨_, rfl, k' H2 p (sb1.trans sb2) hp⟩
    | _ => exact k
end
end L2.K32
set_option Elab.async false
set_option linter.all false
set_option maxRecDepth 100000
set_option maxHeartbeats 4000000
/-! The pen's defs keep their promises. -/
namespace L2.K32
open PySem PySem.Spec PyProof.Rows L2.RV
section
variable {P : Program} {w : World} {K : PySem.W.Frag} {mg : Str → Option Value} {base : Heap} {fd : FuncData}
theorem ok_law_pen (T : Top w K mg) (F : Fn K "_law_pen" s_law_pen fd) : FnOk P w K mg base CX0 1 (He.ga K "_law_pen") fd ["_law_script"] (spPen K) := by
  refine F.ok sc_law_pen (fun vs H Q E h => ?_) (fun cdv A outer s H vs Q E hr h => ?_)
  · obtain ⟨a, ns, rfl, _⟩ := h
    rfl
  · obtain ⟨a, ns, rfl, hS, few, k⟩ := h
    refine ⟨_, PSs.nox (pss_one (ps_ret (pe_lstN (pa_cons (pe_callTy call_list_of rfl T.n_list (by decide +kernel) (pa_cons (pe_slice sl_list (pv 0) po_none (po_some pe_int)) pa_nil)) (pa_cons pe_int (pa_cons pe_int pa_nil)))))), ?_⟩
    obtain ⟨ms, em, lm⟩ := cut_ints ns none (some 63)
    refine ⟨_, rfl, 63, rfl, a, _, rfl, hS, fun q1 h1 => ?_⟩
    refine ⟨q1, _, rfl, .inl (SqL.of upd_same), fun q2 h2 => ?_⟩
    refine ⟨by show 3 ≤ sizeLine; decide, fun p hp hs => ?_⟩
    have n21 : q2 ≠ p := fun z => by
      rw [← z, upd_same] at hp
      cases hp
    have n2 : H q2 = none := by
      have z := h2
      have ne : q2 ≠ q1 := fun y => by
        rw [y, upd_same] at z
        cases z
      rw [upd_ne ne] at z
      exact z
    have np : H p = none := (Same.trans (same_new h1) (same_new h2)).free hp
    exact k _ p q2 ms ((Same.trans (same_new h1) (same_new h2)).trans (same_new hp)) np ⟨upd_same, by rw [upd_ne n21, upd_same, em], n21, by omega, Int.le_refl 0, Int.le_refl 0⟩
theorem ok_law_draw (T : Top w K mg) (F : Fn K "_law_draw" s_law_draw fd) : FnOk P w K mg base CX0 1 (He.ga K "_law_draw") fd ["_law_pen_here", "_law_many"] spDraw := by
  refine F.ok sc_law_draw (fun vs H Q E h => ?_) (fun cdv A outer s H vs Q E hr h => ?_)
  · obtain ⟨p, l, ns, a, r, m, rfl, _⟩ := h
    rfl
  · obtain ⟨p, l, ns, a, r, m, rfl, pa, ha, m0, m1, k⟩ := h
    have hu := hr.units
    have a0 := pa.from0
    have r0 := pa.rest0
    refine ⟨_, PSs.nox (pss_cons (ps_if (pt_cmpR op_gt (pe_ix ix_seq (pv 0) pe_int (fun _ _ => rfl)) pe_int (nomark _)) (pss_cons (ps_set (i := 5) sc_law_draw.nd rfl (by first | exact Or.inl rfl | exact Or.inr rfl) (pe_op op_mod (pe_callTy call_int1 rfl T.n_int (by decide +kernel) (pa_cons (pe_ix ix_seq (pv 0) pe_int (fun _ _ => rfl)) pa_nil)) (pv 1)))
      (pss_cons (ps_asg (pe_op op_fdiv (pe_callTy call_int1 rfl T.n_int (by decide +kernel) (pa_cons (pe_ix ix_seq (pv 0) pe_int (fun _ _ => rfl)) pa_nil)) (pv 1)) (pg_sub (pv 0) pe_int set_list))
      (pss_one (ps_ret (pv 5))))) pss_nil)
      (pss_cons (ps_set (i := 2) sc_law_draw.nd rfl (by first | exact Or.inl rfl | exact Or.inr rfl) (pe_ix ix_seq (pv 0) pe_int (fun _ _ => rfl)))
      (pss_cons (ps_asg (pe_op op_plus (pv 2) pe_int) (pg_sub (pv 0) pe_int set_list))
      (pss_cons (ps_set (i := 3) sc_law_draw.nd rfl (by first | exact Or.inl rfl | exact Or.inr rfl) (pe_op op_plus (pe_op op_times pe_int (pv 2)) pe_int))
      (pss_cons (ps_if (pt_cmpR (op_diff hu) (pe_ix ix_seq (pv 0) pe_int (fun _ _ => rfl)) (pe_lstN pa_nil) (nomark _)) (pss_one (ps_set (i := 3) sc_law_draw.nd rfl (by first | exact Or.inl rfl | exact Or.inr rfl) (pe_ix ix_seq (pe_ix ix_seq (pv 0) pe_int (fun _ _ => rfl)) (pe_op op_mod (pe_callTy call_int1 rfl T.n_int (by decide +kernel) (pa_cons (pv 2) pa_nil)) (pe_callB call_len rfl T.n_len (by decide +kernel) (pa_cons (pe_ix ix_seq (pv 0) pe_int (fun _ _ => rfl)) pa_nil))) (fun _ _ => rfl)))) pss_nil)
      (pss_cons (ps_if (PW.pt (pw_and (pt_cmpR op_lt (pv 2) (pe_callB call_len rfl T.n_len (by decide +kernel) (pa_cons (pe_ix ix_seq (pv 0) pe_int (fun _ _ => rfl)) pa_nil)) (nomark _)) (pw_and1 (pt_cmpR op_ge (pe_callB call_abs rfl T.n_abs (by decide +kernel) (pa_cons (pv 3) pa_nil)) (pe_op op_pow pe_int pe_int) (nomark _))))) (pss_cons (ps_set (i := 6) sc_law_draw.nd rfl (by first | exact Or.inl rfl | exact Or.inr rfl) (pe_op op_plus (pe_op op_times pe_int (pe_op op_sub (pe_callB call_abs rfl T.n_abs (by decide +kernel) (pa_cons (pv 3) pa_nil)) (pe_op op_pow pe_int pe_int))) (pe_callTy call_int1 rfl T.n_int (by decide +kernel) (pa_cons (pe_cmpR op_lt (pv 3) pe_int (nomark _)) pa_nil))))
      (pss_cons (ps_asg (pe_op op_fdiv (pe_callTy call_int1 rfl T.n_int (by decide +kernel) (pa_cons (pv 6) pa_nil)) (pv 1)) (pg_sub (pv 0) pe_int set_list))
      (pss_one (ps_ret (pe_op op_mod (pe_callTy call_int1 rfl T.n_int (by decide +kernel) (pa_cons (pv 6) pa_nil)) (pv 1)))))) pss_nil)
      (pss_cons (ps_set (i := 4) sc_law_draw.nd rfl (by first | exact Or.inl rfl | exact Or.inr rfl) (pe_op op_mod (pe_callTy call_int1 rfl T.n_int (by decide +kernel) (pa_cons (pe_op op_pow (pe_op op_plus (pe_op op_plus (pe_op op_mod (pe_callTy call_int1 rfl T.n_int (by decide +kernel) (pa_cons (pv 3) pa_nil)) pe_int) (pe_op op_times pe_int (pv 2))) pe_int) pe_int) pa_nil)) pe_int))
      (pss_cons (ps_set (i := 4) sc_law_draw.nd rfl (by first | exact Or.inl rfl | exact Or.inr rfl) (pe_op op_mod (pe_callTy call_int1 rfl T.n_int (by decide +kernel) (pa_cons (pe_op op_pow (pe_op op_plus (pe_op op_plus (pe_op op_times (pv 4) (pe_op op_plus (pe_op op_times pe_int (pv 2)) pe_int)) (pe_op op_times (pe_op op_times pe_int (pv 2)) (pv 2))) pe_int) pe_int) pa_nil)) pe_int))
      (pss_one (ps_ret (pe_op op_mod (pe_callTy call_int1 rfl T.n_int (by decide +kernel) (pa_cons (pe_op op_fdiv (pv 4) pe_int) pa_nil)) (pv 1)))))))))))), ?_⟩
    refine ⟨_, rfl, rd_ix pa.pen rfl ⟨_, _, rfl, rfl, _, rfl, ?_⟩⟩
    refine ite2 (fun c => ?_) (fun c => ?_)
    · -- a digit of what is left
      refine ⟨_, rfl, rd_ix pa.pen rfl (.inl ⟨_, rfl, _, rfl, _, _, rfl, rfl, m0, ?_⟩)⟩
      refine ⟨_, rfl, rd_ix pa.pen rfl (.inl ⟨_, rfl, _, rfl, _, _, rfl, rfl, ⟨m0, m1⟩, ?_⟩)⟩
      refine ⟨_, rfl, rd_set [.ref l, .int a, .int (r / m)] pa.pen rfl rfl ?_⟩
      refine ⟨_, rfl, ?_⟩
      exact k _ a (r / m) (r % m) Keep.upd ⟨upd_same, by rw [upd_ne pa.ne]; exact pa.nums, pa.ne, pa.few, pa.from0, Int.ediv_nonneg r0 (by omega)⟩ (by omega) (Int.emod_nonneg _ (by omega)) (Int.emod_lt_of_pos _ m0)
    · refine ⟨_, rfl, rd_ix pa.pen rfl ?_⟩
      refine ⟨_, rfl, .inl ⟨_, _, rfl, rfl, ?_⟩⟩
      refine ⟨_, rfl, rd_set [.ref l, .int (a + 1), .int r] pa.pen rfl rfl ?_⟩
      have p1 : PenAt (upd H p (.lst [.ref l, .int (a + 1), .int r])) p l ns (a + 1) r := ⟨upd_same, by rw [upd_ne pa.ne]; exact pa.nums, pa.ne, pa.few, by omega, r0⟩
      have k1 : Keep p H (upd H p (.lst [.ref l, .int (a + 1), .int r])) := Keep.upd
      generalize upd H p (.lst [.ref l, .int (a + 1), .int r]) = H1 at p1 k1 ⊢
      refine ⟨_, rfl, .inl ⟨_, _, rfl, rfl, cmulL (by decide) (by decide), .inl ⟨_, _, rfl, rfl, ?_⟩⟩⟩
      refine ⟨_, rfl, rd_ix p1.pen rfl ⟨Nat.zero_le _, fun q hq _ => .inr ⟨_, _, .lst (SqL.of (same_new hq _ _ p1.nums)) (dpA_int ns), .lst (SqL.of upd_same) .nil, shaped_int ns, by decide, _, rfl, ?_⟩⟩⟩
      have p2 := p1.same (same_new (o := .lst []) hq)
      have k2 : Keep p H (upd H1 q (.lst [])) := k1.trans (.of (same_new hq))
      generalize upd H1 q (.lst []) = H2 at p2 k2 ⊢
      refine ite2 (fun c => ?_) (fun c => ?_)
      · have pos : 0 < ns.length := by
          rw [no_ints] at c
          cases ns with
          | nil => simp at c
          | cons n ns => exact Nat.succ_pos _
        obtain ⟨cell, hcell⟩ := atI_mod (a := a) pos a0
        have pos' : (0 : Int) < (((ns.map V.int).length : Nat) : Int) := by rw [List.length_map]; omega
        refine ⟨_, rfl, rd_ix p2.pen rfl ⟨_, rfl, .inl ⟨_, rfl, _, rfl, rd_ix p2.pen rfl ⟨_, _, rfl, .inl ⟨_, SqL.of p2.nums, rfl⟩, _, _, rfl, rfl, pos', rd_ix p2.nums hcell ?_⟩⟩⟩⟩
        refine ⟨_, rfl, _, rfl, rd_ix p2.pen rfl ⟨_, _, rfl, .inl ⟨_, SqL.of p2.nums, rfl⟩, _, _, rfl, rfl, _, rfl, ?_⟩⟩
        refine ite2 (fun c1 => ?_) (fun c1 => ?_)
        · refine ⟨_, rfl, _, rfl, _, _, rfl, rfl, c18, _, _, rfl, rfl, _, rfl, ?_⟩
          refine ite2 (fun c2 => ?_) (fun c2 => ?_)
          · refine ⟨_, rfl, _, rfl, _, _, rfl, rfl, c18, _, _, rfl, rfl, .inl ⟨_, _, rfl, rfl, cmulL (by decide) (by decide), _, rfl, _, _, rfl, rfl, .inr ⟨_, rfl, .inl ⟨_, _, rfl, rfl, ?_⟩⟩⟩⟩
            refine ⟨_, rfl, .inl ⟨_, rfl, _, rfl, _, _, rfl, rfl, ⟨m0, m1⟩, ?_⟩⟩
            refine ⟨_, rfl, rd_set [.ref l, .int (a + 1), .int _] p2.pen rfl rfl ?_⟩
            refine ⟨_, rfl, .inl ⟨_, rfl, _, rfl, _, _, rfl, rfl, m0, ?_⟩⟩
            refine k _ (a + 1) _ _ (k2.trans Keep.upd) ⟨upd_same, by rw [upd_ne p2.ne]; exact p2.nums, p2.ne, p2.few, by omega, Int.ediv_nonneg ?_ (by omega)⟩ (by omega) (Int.emod_nonneg _ (by omega)) (Int.emod_lt_of_pos _ m0)
            have c2' := of_decide_eq_true c2
            rw [e18] at c2' ⊢
            split <;> omega
          · refine ⟨_, rfl, .inl ⟨_, rfl, _, _, rfl, rfl, (by show (0 : Int) < _; decide), _, rfl, .inl ⟨_, _, rfl, rfl, cmulL (by decide) (by decide), .inl ⟨_, _, rfl, rfl, .inl ⟨_, _, rfl, rfl, _, _, rfl, rfl, cpow5 (by omega) (by omega), .inl ⟨_, rfl, _, _, rfl, rfl, (by show (0 : Int) < _; decide), ?_⟩⟩⟩⟩⟩⟩
            refine ⟨_, rfl, _, rfl, .inl ⟨_, _, rfl, rfl, cmulL (by decide) (by decide), .inl ⟨_, _, rfl, rfl, .inl ⟨_, _, rfl, rfl, cmulL (Int.emod_nonneg _ (by decide)) (by omega), _, rfl, .inl ⟨_, _, rfl, rfl, cmulL (by decide) (by decide), _, rfl, .inl ⟨_, _, rfl, rfl, cmulL (by omega) (by omega), .inl ⟨_, _, rfl, rfl, .inl ⟨_, _, rfl, rfl, _, _, rfl, rfl, cpow3 (by omega) (by omega) (by omega) (by omega) (by omega) (by omega) a0 ha (by decide) (by decide), .inl ⟨_, rfl, _, _, rfl, rfl, (by show (0 : Int) < _; decide), ?_⟩⟩⟩⟩⟩⟩⟩⟩⟩
            refine ⟨_, rfl, _, _, rfl, rfl, ⟨by decide, by decide⟩, .inl ⟨_, rfl, _, rfl, _, _, rfl, rfl, m0, ?_⟩⟩
            exact k _ (a + 1) r _ k2 p2 (Int.le_refl _) (Int.emod_nonneg _ (by omega)) (Int.emod_lt_of_pos _ m0)
        · refine iteF ?_
          refine ⟨_, rfl, .inl ⟨_, rfl, _, _, rfl, rfl, (by show (0 : Int) < _; decide), _, rfl, .inl ⟨_, _, rfl, rfl, cmulL (by decide) (by decide), .inl ⟨_, _, rfl, rfl, .inl ⟨_, _, rfl, rfl, _, _, rfl, rfl, cpow5 (by omega) (by omega), .inl ⟨_, rfl, _, _, rfl, rfl, (by show (0 : Int) < _; decide), ?_⟩⟩⟩⟩⟩⟩
          refine ⟨_, rfl, _, rfl, .inl ⟨_, _, rfl, rfl, cmulL (by decide) (by decide), .inl ⟨_, _, rfl, rfl, .inl ⟨_, _, rfl, rfl, cmulL (Int.emod_nonneg _ (by decide)) (by omega), _, rfl, .inl ⟨_, _, rfl, rfl, cmulL (by decide) (by decide), _, rfl, .inl ⟨_, _, rfl, rfl, cmulL (by omega) (by omega), .inl ⟨_, _, rfl, rfl, .inl ⟨_, _, rfl, rfl, _, _, rfl, rfl, cpow3 (by omega) (by omega) (by omega) (by omega) (by omega) (by omega) a0 ha (by decide) (by decide), .inl ⟨_, rfl, _, _, rfl, rfl, (by show (0 : Int) < _; decide), ?_⟩⟩⟩⟩⟩⟩⟩⟩⟩
          refine ⟨_, rfl, _, _, rfl, rfl, ⟨by decide, by decide⟩, .inl ⟨_, rfl, _, rfl, _, _, rfl, rfl, m0, ?_⟩⟩
          exact k _ (a + 1) r _ k2 p2 (Int.le_refl _) (Int.emod_nonneg _ (by omega)) (Int.emod_lt_of_pos _ m0)
      · refine ⟨_, rfl, _, rfl, rd_ix p2.pen rfl ⟨_, _, rfl, .inl ⟨_, SqL.of p2.nums, rfl⟩, _, _, rfl, rfl, _, rfl, ?_⟩⟩
        refine ite2 (fun c1 => ?_) (fun c1 => ?_)
        · refine ⟨_, rfl, _, rfl, _, _, rfl, rfl, c18, _, _, rfl, rfl, _, rfl, ?_⟩
          refine ite2 (fun c2 => ?_) (fun c2 => ?_)
          · refine ⟨_, rfl, _, rfl, _, _, rfl, rfl, c18, _, _, rfl, rfl, .inl ⟨_, _, rfl, rfl, cmulL (by decide) (by decide), _, rfl, _, _, rfl, rfl, .inr ⟨_, rfl, .inl ⟨_, _, rfl, rfl, ?_⟩⟩⟩⟩
            refine ⟨_, rfl, .inl ⟨_, rfl, _, rfl, _, _, rfl, rfl, ⟨m0, m1⟩, ?_⟩⟩
            refine ⟨_, rfl, rd_set [.ref l, .int (a + 1), .int _] p2.pen rfl rfl ?_⟩
            refine ⟨_, rfl, .inl ⟨_, rfl, _, rfl, _, _, rfl, rfl, m0, ?_⟩⟩
            refine k _ (a + 1) _ _ (k2.trans Keep.upd) ⟨upd_same, by rw [upd_ne p2.ne]; exact p2.nums, p2.ne, p2.few, by omega, Int.ediv_nonneg ?_ (by omega)⟩ (by omega) (Int.emod_nonneg _ (by omega)) (Int.emod_lt_of_pos _ m0)
            have c2' := of_decide_eq_true c2
            rw [e18] at c2' ⊢
            split <;> omega
          · refine ⟨_, rfl, .inl ⟨_, rfl, _, _, rfl, rfl, (by show (0 : Int) < _; decide), _, rfl, .inl ⟨_, _, rfl, rfl, cmulL (by decide) (by decide), .inl ⟨_, _, rfl, rfl, .inl ⟨_, _, rfl, rfl, _, _, rfl, rfl, cpow5 (by omega) (by omega), .inl ⟨_, rfl, _, _, rfl, rfl, (by show (0 : Int) < _; decide), ?_⟩⟩⟩⟩⟩⟩
            refine ⟨_, rfl, _, rfl, .inl ⟨_, _, rfl, rfl, cmulL (by decide) (by decide), .inl ⟨_, _, rfl, rfl, .inl ⟨_, _, rfl, rfl, cmulL (Int.emod_nonneg _ (by decide)) (by omega), _, rfl, .inl ⟨_, _, rfl, rfl, cmulL (by decide) (by decide), _, rfl, .inl ⟨_, _, rfl, rfl, cmulL (by omega) (by omega), .inl ⟨_, _, rfl, rfl, .inl ⟨_, _, rfl, rfl, _, _, rfl, rfl, cpow3 (by omega) (by omega) (by omega) (by omega) (by omega) (by omega) a0 ha (by decide) (by decide), .inl ⟨_, rfl, _, _, rfl, rfl, (by show (0 : Int) < _; decide), ?_⟩⟩⟩⟩⟩⟩⟩⟩⟩
            refine ⟨_, rfl, _, _, rfl, rfl, ⟨by decide, by decide⟩, .inl ⟨_, rfl, _, rfl, _, _, rfl, rfl, m0, ?_⟩⟩
            exact k _ (a + 1) r _ k2 p2 (Int.le_refl _) (Int.emod_nonneg _ (by omega)) (Int.emod_lt_of_pos _ m0)
        · refine iteF ?_
          refine ⟨_, rfl, .inl ⟨_, rfl, _, _, rfl, rfl, (by show (0 : Int) < _; decide), _, rfl, .inl ⟨_, _, rfl, rfl, cmulL (by decide) (by decide), .inl ⟨_, _, rfl, rfl, .inl ⟨_, _, rfl, rfl, _, _, rfl, rfl, cpow5 (by omega) (by omega), .inl ⟨_, rfl, _, _, rfl, rfl, (by show (0 : Int) < _; decide), ?_⟩⟩⟩⟩⟩⟩
          refine ⟨_, rfl, _, rfl, .inl ⟨_, _, rfl, rfl, cmulL (by decide) (by decide), .inl ⟨_, _, rfl, rfl, .inl ⟨_, _, rfl, rfl, cmulL (Int.emod_nonneg _ (by decide)) (by omega), _, rfl, .inl ⟨_, _, rfl, rfl, cmulL (by decide) (by decide), _, rfl, .inl ⟨_, _, rfl, rfl, cmulL (by omega) (by omega), .inl ⟨_, _, rfl, rfl, .inl ⟨_, _, rfl, rfl, _, _, rfl, rfl, cpow3 (by omega) (by omega) (by omega) (by omega) (by omega) (by omega) a0 ha (by decide) (by decide), .inl ⟨_, rfl, _, _, rfl, rfl, (by show (0 : Int) < _; decide), ?_⟩⟩⟩⟩⟩⟩⟩⟩⟩
          refine ⟨_, rfl, _, _, rfl, rfl, ⟨by decide, by decide⟩, .inl ⟨_, rfl, _, rfl, _, _, rfl, rfl, m0, ?_⟩⟩
          exact k _ (a + 1) r _ k2 p2 (Int.le_refl _) (Int.emod_nonneg _ (by omega)) (Int.emod_lt_of_pos _ m0)
theorem ok_law_pick (T : Top w K mg) (D_law_draw : Def P w K mg base "_law_draw" 1 ["_law_pen_here", "_law_many"] spDraw) (F : Fn K "_law_pick" s_law_pick fd) : FnOk P w K mg base CX0 2 (He.ga K "_law_pick") fd ["_law_pen_here", "_law_some"] spPick := by
  refine F.ok sc_law_pick (fun vs H Q E h => ?_) (fun cdv A outer s H vs Q E hr h => ?_)
  · obtain ⟨p, l, q, ns, a, r, xs, rfl, _⟩ := h
    rfl
  · obtain ⟨p, l, q, ns, a, r, xs, rfl, pa, ha, hq, nq, pos, few, k⟩ := h
    refine ⟨_, PSs.nox (pss_one (ps_ret (pe_ix ix_seq (pv 1) (pe_callD D_law_draw (hr.mono (by decide)) rfl (pa_cons (pv 0) (pa_cons (pe_callB call_len rfl T.n_len (by decide +kernel) (pa_cons (pv 1) pa_nil)) pa_nil))) (fun _ _ => rfl)))), ?_⟩
    refine ⟨_, rfl, _, rfl, _, rfl, _, _, rfl, .inl ⟨_, SqL.of hq, rfl⟩, ?_⟩
    refine ⟨p, l, ns, a, r, _, rfl, pa, ha, by omega, by omega, fun H' a' r' d kp pa' la d0 d1 => ?_⟩
    obtain ⟨j, rfl⟩ : ∃ j : Nat, d = (j : Int) := ⟨_, (Int.toNat_of_nonneg d0).symm⟩
    have lt : j < xs.length := by omega
    refine rd_ix (kp _ _ nq hq) (atI_nat (List.getElem?_eq_getElem lt)) ?_
    exact k H' a' r' _ kp pa' la (List.getElem_mem lt)
end
end L2.K32
set_option Elab.async false
set_option linter.all false
set_option maxRecDepth 100000
set_option maxHeartbeats 4000000
/-! A drawn unit. -/
namespace L2.K32
open PySem PySem.Spec PyProof.Rows L2.RV
/-- a pair of a word and a list of numbers -/
def UnitAt (H : Hp) (p : Addr) (v : V) (y : Str) (ms : List Int) : Prop := ∃ t l, v = .ref t ∧ t ≠ p ∧ l ≠ p ∧ H t = some (.tup [.str y, .ref l]) ∧ H l = some (.lst (ms.map V.int))
theorem UnitAt.keep {H H' : Hp} {p : Addr} {v : V} {y : Str} {ms : List Int} (u : UnitAt H p v y ms) (k : Keep p H H') : UnitAt H' p v y ms := by
  obtain ⟨t, l, e, a, b, c, d⟩ := u
  exact ⟨t, l, e, a, b, k _ _ a c, k _ _ b d⟩
/-- _law_unit(pen) -/
def spLUnit : Sp := fun vs H Q _ => ∃ (p l : Addr) (ns : List Int) (a r : Int), vs = [.ref p] ∧ PenAt H p l ns a r ∧ a ≤ 90000 ∧
  ∀ H' a' r' v y ms, Keep p H H' → PenAt H' p l ns a' r' → a' ≤ a + 4 → UnitAt H' p v y ms → Parts y ms → (∀ t l, v = .ref t → H' t = some (.tup [.str y, .ref l]) → ∀ b o, H b = some o → t ≠ b ∧ l ≠ b) → Q v H'
theorem pick_lst {σ : L2.St} {H : Hp} {Q : VK} {ta : TA} {xs : List V} {i : Nat} {p l : Addr} {ns : List Int} {a r : Int} (vp : σ[i]? = some (some (.ref p))) (pa : PenAt H p l ns a r) (ha : a ≤ 100000) (pos : 0 < xs.length) (few : xs.length < 1000) (hta : ∀ R : List V → Hp → Prop, R xs H → ta σ H R)
    (k : ∀ H' a' r' v, Keep p H H' → PenAt H' p l ns a' r' → a' ≤ a + 1 → v ∈ xs → Q v H') : tCall spPick [] E0 (tCons (tVar i) (tCons (tLstN ta) tNil)) σ H Q := by
  refine ⟨_, vp, hta _ ⟨by rw [sizeLine_eq]; omega, fun q nq mq => ?_⟩⟩
  have s := same_new (o := .lst xs) nq
  have qp : q ≠ p := fun z => by
    have := pa.pen
    rw [← z, nq] at this
    cases this
  exact ⟨p, l, q, ns, a, r, xs, rfl, pa.same s, ha, upd_same, qp, pos, by omega, fun H' a' r' v kp pa' la mv => k H' a' r' v ((Keep.of s).trans kp) pa' la mv⟩
/-- a number from 0 to 99 -/
def Num99 (v : V) : Prop := ∃ n : Int, v = .int n ∧ 0 ≤ n ∧ n ≤ 99
theorem num_of {n : Int} (h0 : 0 ≤ n) (h1 : n ≤ 99) : Num99 (.int n) := ⟨n, rfl, h0, h1⟩
theorem parts0 : Parts "journal" [] := ⟨by decide +kernel, by decide +kernel, fun j n h => by cases h⟩
theorem numV_of {x : Str} {j : Nat} {n : Int} (h0 : 0 ≤ n) (h1 : n ≤ 99) (h : x = "cell" → j = 0 → 1 ≤ n) : numV x j (.int n) = true := by
  show (decide ((if x = "cell" ∧ (j : Int) = 0 then (1 : Int) else 0) ≤ n) && decide (n ≤ 99)) = true
  rw [Bool.and_eq_true_iff]
  refine ⟨decide_eq_true ?_, decide_eq_true h1⟩
  split
  · rename_i c
    exact h c.1 (by omega)
  · exact h0
theorem parts1 {y : Str} {n : Int} (w : y = "block" ∨ y = "page" ∨ y = "bucket") (h0 : 0 ≤ n) (h1 : n ≤ 99) : Parts y [n] := by
  refine ⟨?_, ?_, fun j m h => ?_⟩
  · rcases w with rfl | rfl | rfl <;> decide +kernel
  · show ((1 : Nat) : Int) = _
    rcases w with rfl | rfl | rfl <;> decide +kernel
  · have hj : j = 0 ∧ m = n := by
      cases j with
      | zero => cases h; exact ⟨rfl, rfl⟩
      | succ j => cases h
    rw [hj.2]
    exact numV_of h0 h1 fun e => by
      rcases w with rfl | rfl | rfl <;> exact absurd e (by decide +kernel)
theorem parts2 {y : Str} {n m : Int} (w : y = "cell" ∨ y = "parity") (h0 : 0 ≤ n) (h1 : n ≤ 99) (g0 : 0 ≤ m) (g1 : m ≤ 99) (c : y = "cell" → 1 ≤ n) : Parts y [n, m] := by
  refine ⟨?_, ?_, fun j k h => ?_⟩
  · rcases w with rfl | rfl <;> decide +kernel
  · show ((2 : Nat) : Int) = _
    rcases w with rfl | rfl <;> decide +kernel
  · have hj : j = 0 ∧ k = n ∨ j = 1 ∧ k = m := by
      match j, h with
      | 0, h => cases h; exact .inl ⟨rfl, rfl⟩
      | 1, h => cases h; exact .inr ⟨rfl, rfl⟩
    rcases hj with ⟨rfl, rfl⟩ | ⟨rfl, rfl⟩
    · exact numV_of h0 h1 fun e _ => c e
    · exact numV_of g0 g1 fun _ z => absurd z (by decide)
/-- a pair just laid -/
theorem unit_new {H : Hp} {p l t : Addr} {y : Str} {ms : List Int} {ns : List Int} {a r : Int} {l0 : Addr} (pa : PenAt H p l0 ns a r) (nl : H l = none) (nt : (upd H l (.lst (ms.map V.int))) t = none) :
    UnitAt (upd (upd H l (.lst (ms.map V.int))) t (.tup [.str y, .ref l])) p (.ref t) y ms := by
  have lp := ne_of_none pa.pen nl
  have s := same_new (o := .lst (ms.map V.int)) nl
  have tp := ne_of_none (s _ _ pa.pen) nt
  have tl : l ≠ t := fun z => by
    rw [← z, upd_same] at nt
    cases nt
  exact ⟨t, l, rfl, tp.symm, lp.symm, upd_same, by rw [upd_ne tl]; exact upd_same⟩
section
variable {P : Program} {w : World} {K : PySem.W.Frag} {mg : Str → Option Value} {base : Heap} {fd : FuncData}
theorem ok_law_unit (T : Top w K mg) (D_law_draw : Def P w K mg base "_law_draw" 1 ["_law_pen_here", "_law_many"] spDraw) (D_law_pick : Def P w K mg base "_law_pick" 2 ["_law_pen_here", "_law_some"] spPick) (F : Fn K "_law_unit" s_law_unit fd) : FnOk P w K mg base CX0 3 (He.ga K "_law_unit") fd ["_law_pen_here"] spLUnit := by
  refine F.ok sc_law_unit (fun vs H Q E h => ?_) (fun cdv A outer s H vs Q E hr h => ?_)
  · obtain ⟨p, l, ns, a, r, rfl, _⟩ := h
    rfl
  · obtain ⟨p, l, ns, a, r, rfl, pa, ha, k⟩ := h
    have hu := hr.units
    refine ⟨_, PSs.nox (pss_cons (ps_set (i := 1) sc_law_unit.nd rfl (by first | exact Or.inl rfl | exact Or.inr rfl) (pe_callD D_law_pick (hr.mono (by decide)) rfl (pa_cons (pv 0) (pa_cons (pe_lstN (pa_cons pe_str (pa_cons pe_str (pa_cons pe_str (pa_cons pe_str (pa_cons pe_str (pa_cons pe_str pa_nil))))))) pa_nil))))
      (pss_cons (ps_par (i := 2) (j := 3) (by rfl) sc_law_unit.nd rfl rfl (by decide) rfl rfl (pa_cons (pe_callD D_law_pick (hr.mono (by decide)) rfl (pa_cons (pv 0) (pa_cons (pe_lstN (pa_cons pe_int (pa_cons pe_int (pa_cons pe_int (pa_cons pe_int (pa_cons pe_int (pa_cons (pe_callD D_law_draw (hr.mono (by decide)) rfl (pa_cons (pv 0) (pa_cons pe_int pa_nil))) pa_nil))))))) pa_nil))) (pa_cons (pe_callD D_law_pick (hr.mono (by decide)) rfl (pa_cons (pv 0) (pa_cons (pe_lstN (pa_cons pe_int (pa_cons pe_int (pa_cons pe_int (pa_cons pe_int pa_nil))))) pa_nil))) pa_nil)) (by rfl))
      (pss_cons (ps_if (pt_cmpR (op_same hu) (pv 1) pe_str (nomark _)) (pss_one (ps_ret (pe_tup (pa_cons (pv 1) (pa_cons (pe_lstN pa_nil) pa_nil))))) pss_nil)
      (pss_one (ps_ret (pe_ifExp (pt_cmpR (op_same hu) (pv 1) pe_str (nomark _)) (pe_tup (pa_cons (pv 1) (pa_cons (pe_lstN (pa_cons (pe_callB (call_max2 rfl) rfl T.n_max (by decide +kernel) (pa_cons pe_int (pa_cons (pe_callTy call_int1 rfl T.n_int (by decide +kernel) (pa_cons (pv 2) pa_nil)) pa_nil))) (pa_cons (pv 3) pa_nil))) pa_nil))) (pe_tup (pa_cons (pv 1) (pa_cons (pe_ifExp (pt_cmpR (op_same hu) (pv 1) pe_str (nomark _)) (pe_lstN (pa_cons (pv 2) (pa_cons (pv 3) pa_nil))) (pe_lstN (pa_cons (pv 2) pa_nil))) pa_nil))))))))), ?_⟩
    refine pick_lst (xs := [.str "block", .str "page", .str "cell", .str "bucket", .str "parity", .str "journal"]) rfl pa (by omega) (by decide) (by decide) (fun R h => h) fun H1 a1 r1 v1 k1 p1 l1 m1 => ?_
    have hv1 : ∃ y, v1 = .str y ∧ isWord y = true := by
      simp only [List.mem_cons, List.not_mem_nil, or_false] at m1
      rcases m1 with rfl | rfl | rfl | rfl | rfl | rfl <;> exact ⟨_, rfl, by decide +kernel⟩
    obtain ⟨y, rfl, hy⟩ := hv1
    refine ⟨_, rfl, _, rfl, p, l, ns, a1, r1, 100, rfl, p1, by omega, by decide, by decide, fun H2 a2 r2 d k2 p2 l2 d0 d1 => ?_⟩
    refine ⟨(by decide : (6 : Nat) ≤ sizeLine), fun q nq mq => ?_⟩
    have sq := same_new (o := .lst [.int 0, .int 1, .int 9, .int 10, .int 99, .int d]) nq
    have qp : q ≠ p := fun z => by
      have := p2.pen
      rw [← z, nq] at this
      cases this
    refine ⟨p, l, q, ns, a2, r2, [.int 0, .int 1, .int 9, .int 10, .int 99, .int d], rfl, p2.same sq, by omega, upd_same, qp, by show 0 < 6; decide, by show 6 < 1000000; decide, fun H3 a3 r3 v3 k3 p3 l3 m3 => ?_⟩
    have hn : ∃ n : Int, v3 = .int n ∧ 0 ≤ n ∧ n ≤ 99 := by
      simp only [List.mem_cons, List.not_mem_nil, or_false] at m3
      rcases m3 with rfl | rfl | rfl | rfl | rfl | rfl
      all_goals first | exact ⟨_, rfl, by decide, by decide⟩ | exact ⟨_, rfl, by omega, by omega⟩
    obtain ⟨n, rfl, n0, n1⟩ := hn
    refine pick_lst (i := 0) (xs := [.int 0, .int 1, .int 5, .int 99]) rfl p3 (by omega) (by decide) (by decide) (fun R h => h) fun H4 a4 r4 v4 k4 p4 l4 m4 => ?_
    have hm : ∃ m : Int, v4 = .int m ∧ 0 ≤ m ∧ m ≤ 99 := by
      simp only [List.mem_cons, List.not_mem_nil, or_false] at m4
      rcases m4 with rfl | rfl | rfl | rfl
      all_goals exact ⟨_, rfl, by decide, by decide⟩
    obtain ⟨m, rfl, m0, m5⟩ := hm
    have kk : Keep p H H4 := (((k1.trans k2).trans (Keep.of sq)).trans k3).trans k4
    have fin : ∀ (ms : List Int) (lm t : Addr), Parts y ms → H4 lm = none → (upd H4 lm (.lst (ms.map V.int))) t = none → Q (.ref t) (upd (upd H4 lm (.lst (ms.map V.int))) t (.tup [.str y, .ref lm])) := fun ms lm t pt nl nt =>
      k _ a4 r4 _ y ms (kk.trans (Keep.of ((same_new nl).trans (same_new nt)))) (p4.same ((same_new nl).trans (same_new nt))) (by omega) (unit_new p4 nl nt) pt fun t' l' e ht b o hb => by
        cases e
        rw [upd_same] at ht
        cases ht
        have hb4 : ∃ o', H4 b = some o' := by
          by_cases z : b = p
          · exact ⟨_, by rw [z]; exact p4.pen⟩
          · exact ⟨_, kk b o z hb⟩
        obtain ⟨o', hb4⟩ := hb4
        exact ⟨(ne_of_none ((same_new nl) _ _ hb4) nt).symm, (ne_of_none hb4 nl).symm⟩
    refine ⟨_, _, rfl, _, rfl, .inl ⟨rfl, _, rfl, ?_⟩⟩
    refine ite2 (fun c => ?_) (fun c => ?_)
    · have e : y = "journal" := V.str.inj (of_decide_eq_true c)
      exact ⟨_, rfl, (by decide : (0 : Nat) ≤ sizeLine), fun lm nl _ => ⟨(by decide : (2 : Nat) ≤ sizeLine), fun t nt => fin [] lm t (by rw [e]; exact parts0) nl nt⟩⟩
    have nj : y ≠ "journal" := fun z => c (decide_eq_true (by rw [z]))
    refine ⟨_, rfl, .inl ⟨rfl, _, rfl, ?_⟩⟩
    refine ite2 (fun c2 => ?_) (fun c2 => ?_)
    · have e : y = "cell" := V.str.inj (of_decide_eq_true c2)
      have mx : (if n > 1 then n else 1) = (if n > 1 then n else 1) ∧ 1 ≤ (if n > 1 then n else 1) ∧ (if n > 1 then n else 1) ≤ 99 := by
        refine ⟨rfl, ?_, ?_⟩ <;> split <;> omega
      generalize hg : (if n > 1 then n else 1) = g at mx
      refine ⟨_, rfl, _, rfl, .inl ⟨_, rfl, _, _, rfl, ?_⟩⟩
      rw [hg]
      exact ⟨_, rfl, (by decide : (2 : Nat) ≤ sizeLine), fun lm nl _ => ⟨(by decide : (2 : Nat) ≤ sizeLine), fun t nt => fin [g, m] lm t (parts2 (.inl e) (by omega) mx.2.2 m0 m5 fun _ => mx.2.1) nl nt⟩⟩
    have nc : y ≠ "cell" := fun z => c2 (decide_eq_true (by rw [z]))
    refine ⟨_, rfl, _, rfl, .inl ⟨rfl, _, rfl, ?_⟩⟩
    refine ite2 (fun c3 => ?_) (fun c3 => ?_)
    · have e : y = "parity" := V.str.inj (of_decide_eq_true c3)
      exact ⟨_, rfl, _, rfl, (by decide : (2 : Nat) ≤ sizeLine), fun lm nl _ => ⟨(by decide : (2 : Nat) ≤ sizeLine), fun t nt => fin [n, m] lm t (parts2 (.inr e) n0 n1 m0 m5 fun z => absurd z nc) nl nt⟩⟩
    have np : y ≠ "parity" := fun z => c3 (decide_eq_true (by rw [z]))
    have w3 : y = "block" ∨ y = "page" ∨ y = "bucket" := by
      rcases word6 hy with z | z | z | z | z | z
      · exact absurd z nj
      · exact .inl z
      · exact .inr (.inl z)
      · exact absurd z nc
      · exact .inr (.inr z)
      · exact absurd z np
    exact ⟨_, rfl, (by decide : (1 : Nat) ≤ sizeLine), fun lm nl _ => ⟨(by decide : (2 : Nat) ≤ sizeLine), fun t nt => fin [n] lm t (parts1 w3 n0 n1) nl nt⟩⟩
end
end L2.K32
set_option Elab.async false
set_option linter.all false
set_option maxRecDepth 100000
set_option maxHeartbeats 4000000
/-! The law's own texts of units. -/
namespace L2.K32
open PySem PySem.Spec PyProof.Rows L2.RV
/-- _law_text(unit) -/
def spLText : Sp := fun vs H Q _ => ∃ (p : Addr) (v : V) (y : Str) (ms : List Int), vs = [v] ∧ UnitAt H p v y ms ∧ Parts y ms ∧ ∀ H', Same H H' → Q (.str (textOf y ms)) H'
theorem unitOf_parts {y : Str} {ms : List Int} (p : Parts y ms) : unitOfR (.str y) (ms.map V.int) = .text (textOf y ms) := by
  show (if isWord y = true then _ else _) = _
  rw [if_pos p.word]
  have fb : firstBad y 0 (ms.map V.int) = none := firstBad_none fun j u hu => by
    rw [List.getElem?_map] at hu
    obtain ⟨n, hn, rfl⟩ := Option.map_eq_some_iff.mp hu
    rw [Nat.zero_add]
    exact p.each j n hn
  rw [fb]
  show (if (((ms.map V.int).length : Nat) : Int) = numOf y then _ else _) = _
  rw [List.length_map, if_pos p.many]
  congr 1
  rw [List.map_map]
  congr 1
  exact List.map_id _
/-- [str(n) for n in ..], over any expression that gives a list -/
theorem strs_list {K : PySem.W.Frag} {σ : L2.St} {H : Hp} {Q : VK} {l : Addr} {ns : List Int} {ti : TI} {j : Nat} (hti : ∀ R : It → Hp → Prop, R (Itl K l) H → ti σ H R) (lj : j < σ.length) (hl : H l = some (.lst (ns.map V.int))) (few : ns.length ≤ 60) (rng : ∀ n, n ∈ ns → n.natAbs.log2 < 1920)
    (k : ∀ H' D, Same H H' → H' D = some (.lst (ns.map fun n => V.str (toString n))) → Q (.ref D) H') : tLc ti (gName j) tYes (tStrI (tCons (tVar j) tNil)) [j] σ H Q := by
  refine hti _ fun D nD => ?_
  refine lc_it (walk_list (xs := ns.map V.int)) (fun n H' => Same H H' ∧ H' D = some (.lst ((ns.take n).map fun n => V.str (toString n)))) ⟨same_new nD, upd_same⟩ (fun n H' _ p => SqL.of (p.1 _ _ hl)) (fun n x H' H2 hn p y => ?_) (fun H' p => ?_)
  · obtain ⟨rfl, hx⟩ := y
    rw [List.getElem?_map] at hx
    obtain ⟨t, ht, rfl⟩ := Option.map_eq_some_iff.mp hx
    have lt : n < ns.length := by rw [List.length_map] at hn; exact hn
    refine ⟨by simp only [wipe, List.set_set], ?_⟩
    simp only [tYes, ↓reduceIte]
    refine ⟨_, List.getElem?_set_self (by simp only [wipe, List.length_set]; exact lj), t, rfl, rng t (List.mem_of_getElem? ht), _, p.2, ?_, same_updN p.1 nD, ?_⟩
    · rw [List.length_map, List.length_take, sizeLine_eq]
      omega
    · rw [upd_same]
      have e : ns.take (n + 1) = ns.take n ++ [t] := by
        rw [List.getElem?_eq_getElem lt] at ht
        cases ht
        exact (List.take_append_getElem lt).symm
      rw [e, List.map_append]
      rfl
  · rw [List.length_map, List.take_length] at p
    exact k _ D p.1 p.2
section
variable {P : Program} {w : World} {K : PySem.W.Frag} {mg : Str → Option Value} {base : Heap} {fd : FuncData}
theorem ok_law_text (T : Top w K mg) (F : Fn K "_law_text" s_law_text fd) : FnOk P w K mg base CX0 1 (He.ga K "_law_text") fd ["_law_unit_here"] spLText := by
  refine F.ok sc_law_text (fun vs H Q E h => ?_) (fun cdv A outer s H vs Q E hr h => ?_)
  · obtain ⟨p, v, y, ms, rfl, _⟩ := h
    rfl
  · obtain ⟨p, v, y, ms, rfl, ⟨t, l, rfl, _, _, ht, hl⟩, pa, k⟩ := h
    have hu := hr.units
    refine ⟨_, PSs.nox (pss_one (ps_ret (pe_bm PySem.F.plainAttrs_str PySem.F.slot_str_join PySem.F.type_str_join mt_join pe_str (pa_cons (pe_op op_plus (pe_lstN (pa_cons (pe_ix ix_seq (pv 0) pe_int (fun _ _ => rfl)) pa_nil)) (pe_lc (own := [("_law_number", 1)]) (g := gName 1) (te := tStrI (tCons (tVar 1) tNil)) (tt := tYes) (by rfl) sc_law_text.nd (pi_list (pe_ix ix_seq (pv 0) pe_int (fun _ _ => rfl))) (blkOk_by (own := [("_law_number", 1)]) (N := ["_law_unit_here", "_law_number"]) (sc := defScope s_law_text) (by decide +kernel)) (fun _ _ _ _ _ => by exact (pg_name (i := 1) sc_law_text.nd rfl (by first | exact Or.inl rfl | exact Or.inr rfl))) (fun _ _ _ _ _ => by exact pts_nil) (fun _ _ _ _ _ => by exact (pe_callTy call_str_int rfl T.n_str (by decide +kernel) (pa_cons (pv 1) pa_nil))))) pa_nil)))), ?_⟩
    have few := pa.few
    refine ⟨rfl, _, rfl, ix_sq (.inl (SqT.of ht)) (atI_nat (j := 0) rfl) ⟨(by decide : (1 : Nat) ≤ sizeLine), fun q1 n1 _ => ?_⟩⟩
    have s1 := same_new (o := .lst [.str y]) n1
    refine strs_list (l := l) (ns := ms) (fun R h => ⟨_, rfl, ix_sq (.inl (SqT.of (s1 _ _ ht))) (atI_nat (j := 1) rfl) ⟨l, rfl, ⟨_, SqL.of (s1 _ _ hl)⟩, h⟩⟩) (by show 1 < 2; decide) (s1 _ _ hl) (by omega) (fun n hn => (small99 (pa.rng n hn).1 (pa.rng n hn).2).1) fun H2 D s2 hD => ?_
    refine .inr (.inl ⟨q1, D, _, _, rfl, rfl, s2 _ _ upd_same, hD, ?_, fun q3 n3 => ?_⟩)
    · rw [List.length_map, sizeLine_eq]
      show 1 + ms.length ≤ _
      omega
    · have e : [V.str y] ++ (ms.map fun n => V.str (toString n)) = (y :: ms.map fun n => (toString n : Str)).map V.str := by
        rw [List.map_cons, List.map_map]
        rfl
      rw [e]
      exact ⟨_, q3, _, rfl, rfl, .inl (SqL.of upd_same), unit_size (Nat.le_trans (word_text pa.word).1 (by decide)) few pa.rng, k _ ((s1.trans s2).trans (same_new n3))⟩
theorem ok_law_made (T : Top w K mg) (D_unit_of : DefR (L2.CX P w) P w K mg base "unit_of" 4 "word" (spUnitOf K)) (F : Fn K "_law_made" s_law_made fd) : FnOk P w K mg base CX0 5 (He.ga K "_law_made") fd ["_law_unit_here"] spLText := by
  refine F.ok sc_law_made (fun vs H Q E h => ?_) (fun cdv A outer s H vs Q E hr h => ?_)
  · obtain ⟨p, v, y, ms, rfl, _⟩ := h
    rfl
  · obtain ⟨p, v, y, ms, rfl, ⟨t, l, rfl, _, _, ht, hl⟩, pa, k⟩ := h
    have hu := hr.units
    refine ⟨_, PSs.nox (pss_cons (ps_if (pt_cmpR (op_same hu) (pe_callB call_len rfl T.n_len (by decide +kernel) (pa_cons (pe_ix ix_seq (pv 0) pe_int (fun _ _ => rfl)) pa_nil)) pe_int (nomark _)) (pss_one (ps_ret (pe_callR D_unit_of (hr.mono (by decide)) rfl pass_E0 (pa_cons (pe_ix ix_seq (pv 0) pe_int (fun _ _ => rfl)) (pa_cons (pe_ix ix_seq (pe_ix ix_seq (pv 0) pe_int (fun _ _ => rfl)) pe_int (fun _ _ => rfl)) (pa_cons (pe_ix ix_seq (pe_ix ix_seq (pv 0) pe_int (fun _ _ => rfl)) pe_int (fun _ _ => rfl)) pa_nil)))))) pss_nil)
      (pss_cons (ps_if (pt_cmpR (op_same hu) (pe_callB call_len rfl T.n_len (by decide +kernel) (pa_cons (pe_ix ix_seq (pv 0) pe_int (fun _ _ => rfl)) pa_nil)) pe_int (nomark _)) (pss_one (ps_ret (pe_callR D_unit_of (hr.mono (by decide)) rfl pass_E0 (pa_cons (pe_ix ix_seq (pv 0) pe_int (fun _ _ => rfl)) (pa_cons (pe_ix ix_seq (pe_ix ix_seq (pv 0) pe_int (fun _ _ => rfl)) pe_int (fun _ _ => rfl)) pa_nil))))) pss_nil)
      (pss_one (ps_ret (pe_callR D_unit_of (hr.mono (by decide)) rfl pass_E0 (pa_cons (pe_ix ix_seq (pv 0) pe_int (fun _ _ => rfl)) pa_nil)))))), ?_⟩
    have few := pa.few
    have t0 : ∀ {Q : VK}, Q (.str y) H → rIx K (.ref t) (.int 0) H Q := fun h => ix_sq (.inl (SqT.of ht)) (atI_nat (j := 0) rfl) h
    have t1 : ∀ {Q : VK}, Q (.ref l) H → rIx K (.ref t) (.int 1) H Q := fun h => ix_sq (.inl (SqT.of ht)) (atI_nat (j := 1) rfl) h
    have go : ∀ vs : List V, vs = .str y :: ms.map V.int → spUnitOf K (vs ++ []) H Q E0 := fun vs e => by
      rw [List.append_nil, e]
      refine ⟨.str y, ms.map V.int, rfl, fun _ _ => kinds_str _, fun u hu H' _ => ?_, by rw [List.length_map]; omega, fun x e => by cases e; exact Nat.le_trans (word_text pa.word).1 (by decide), ?_⟩
      · obtain ⟨n, _, rfl⟩ := List.mem_map.mp hu
        exact kinds_int n
      · rw [unitOf_parts pa]
        exact k
    refine ⟨_, rfl, t1 ⟨_, _, rfl, .inl ⟨_, SqL.of hl, rfl⟩, .inl ⟨rfl, _, rfl, ?_⟩⟩⟩
    rw [List.length_map]
    match ms, few, hl, go with
    | [], _, hl, go =>
      refine iteF ?_
      refine ⟨_, rfl, t1 ⟨_, _, rfl, .inl ⟨_, SqL.of hl, rfl⟩, .inl ⟨rfl, _, rfl, ?_⟩⟩⟩
      refine iteF ?_
      exact ⟨_, rfl, t0 (go _ rfl)⟩
    | [a], _, hl, go =>
      refine iteF ?_
      refine ⟨_, rfl, t1 ⟨_, _, rfl, .inl ⟨_, SqL.of hl, rfl⟩, .inl ⟨rfl, _, rfl, ?_⟩⟩⟩
      refine iteT ?_
      exact ⟨_, rfl, t0 ⟨_, rfl, t1 (ix_sq (.inr (SqL.of hl)) (atI_nat (j := 0) rfl) (go _ rfl))⟩⟩
    | [a, b], _, hl, go =>
      refine iteT ?_
      exact ⟨_, rfl, t0 ⟨_, rfl, t1 (ix_sq (.inr (SqL.of hl)) (atI_nat (j := 0) rfl) ⟨_, rfl, t1 (ix_sq (.inr (SqL.of hl)) (atI_nat (j := 1) rfl) (go _ rfl))⟩)⟩⟩
end
end L2.K32
set_option Elab.async false
set_option linter.all false
set_option maxRecDepth 100000
set_option maxHeartbeats 4000000
/-! The law's own order of units. -/
namespace L2.K32
open PySem PySem.Spec PyProof.Rows L2.RV
def lawRank (y : Str) (ms : List Int) : Int := (wordIx y : Int) * 1000000 + firstOf ms * 1000 + secondOf ms
theorem law_rank_lt {y y' : Str} {ms ms' : List Int} (p : Parts y ms) (p' : Parts y' ms') : lawRank y ms < lawRank y' ms' ↔ rankOf y ms < rankOf y' ms' := by
  have a := p.two
  have b := p'.two
  unfold lawRank rankOf
  omega
theorem law_rank_eq {y y' : Str} {ms ms' : List Int} (p : Parts y ms) (p' : Parts y' ms') (h : lawRank y ms = lawRank y' ms') : textOf y ms = textOf y' ms' := by
  refine rank_inj p p' ?_
  have a := p.two
  have b := p'.two
  unfold lawRank at h
  unfold rankOf
  omega
/-- _law_rank(unit) -/
def spLRank : Sp := fun vs H Q _ => ∃ (p : Addr) (v : V) (y : Str) (ms : List Int), vs = [v] ∧ UnitAt H p v y ms ∧ Parts y ms ∧ ∀ H', Same H H' → Q (.int (lawRank y ms)) H'
theorem word_ix {y : Str} (h : isWord y = true) : (units6.map V.str)[wordIx y]? = some (.str y) ∧ (∀ (m : Nat) (z' : V), m < wordIx y → (units6.map V.str)[m]? = some z' → eqV z' (.str y) = false) ∧ wordIx y < 6 := by
  rcases word6 h with rfl | rfl | rfl | rfl | rfl | rfl
  all_goals
    refine ⟨by decide +kernel, ?_, by decide +kernel⟩
    intro m z' hm hz
    have lt : m < 6 := Nat.lt_trans hm (by decide +kernel)
    match m, lt, hm, hz with
    | 0, _, hm, hz => cases hz; first | decide +kernel | exact absurd hm (by decide +kernel)
    | 1, _, hm, hz => cases hz; first | decide +kernel | exact absurd hm (by decide +kernel)
    | 2, _, hm, hz => cases hz; first | decide +kernel | exact absurd hm (by decide +kernel)
    | 3, _, hm, hz => cases hz; first | decide +kernel | exact absurd hm (by decide +kernel)
    | 4, _, hm, hz => cases hz; first | decide +kernel | exact absurd hm (by decide +kernel)
    | 5, _, hm, hz => cases hz; first | decide +kernel | exact absurd hm (by decide +kernel)
theorem eqV_str (y : Str) : eqV (.str y) (.str y) = true := beq_self_eq_true y
section
variable {P : Program} {w : World} {K : PySem.W.Frag} {mg : Str → Option Value} {base : Heap} {fd : FuncData}
theorem ok_law_rank (T : Top w K mg) (F : Fn K "_law_rank" s_law_rank fd) : FnOk P w K mg base CX0 1 (He.ga K "_law_rank") fd ["_law_unit_here"] spLRank := by
  refine F.ok sc_law_rank (fun vs H Q E h => ?_) (fun cdv A outer s H vs Q E hr h => ?_)
  · obtain ⟨p, v, y, ms, rfl, _⟩ := h
    rfl
  · obtain ⟨p, v, y, ms, rfl, ⟨t, l, rfl, _, _, ht, hl⟩, pa, k⟩ := h
    have hu := hr.units
    have few := pa.few
    refine ⟨_, PSs.nox (pss_cons (ps_set (i := 1) sc_law_rank.nd rfl (by first | exact Or.inl rfl | exact Or.inr rfl) (pe_op op_plus (pe_ix ix_seq (pv 0) pe_int (fun _ _ => rfl)) (pe_lstN (pa_cons pe_int (pa_cons pe_int pa_nil)))))
      (pss_one (ps_ret (pe_op op_plus (pe_op op_plus (pe_op op_times (pe_bm PySem.F.plainAttrs_list PySem.F.slot_list_index PySem.F.type_list_index mt_index (pe_lstN (pa_cons pe_str (pa_cons pe_str (pa_cons pe_str (pa_cons pe_str (pa_cons pe_str (pa_cons pe_str pa_nil))))))) (pa_cons (pe_ix ix_seq (pv 0) pe_int (fun _ _ => rfl)) pa_nil)) (pe_op op_pow pe_int pe_int)) (pe_op op_times (pe_ix ix_seq (pv 1) pe_int (fun _ _ => rfl)) pe_int)) (pe_ix ix_seq (pv 1) pe_int (fun _ _ => rfl)))))), ?_⟩
    refine ⟨_, rfl, ix_sq (.inl (SqT.of ht)) (atI_nat (j := 1) rfl) ⟨(by decide : (2 : Nat) ≤ sizeLine), fun z nz _ => .inr (.inl ⟨l, z, _, _, rfl, rfl, same_new nz _ _ hl, upd_same, by rw [List.length_map, sizeLine_eq]; show ms.length + 2 ≤ _; omega, fun q nq => ?_⟩)⟩⟩
    have s1 := (same_new (o := .lst [.int 0, .int 0]) nz).trans (same_new (o := .lst (ms.map V.int ++ [.int 0, .int 0])) nq)
    have hq : upd (upd H z (.lst [.int 0, .int 0])) q (.lst (ms.map V.int ++ [.int 0, .int 0])) q = some (.lst (ms.map V.int ++ [.int 0, .int 0])) := upd_same
    generalize upd (upd H z (.lst [.int 0, .int 0])) q (.lst (ms.map V.int ++ [.int 0, .int 0])) = H1 at s1 hq ⊢
    obtain ⟨x1, x2, x3⟩ := word_ix pa.word
    have two := pa.two
    have at0 : atI (ms.map V.int ++ [.int 0, .int 0]) (0 : Int) = some (.int (firstOf ms)) := atI_nat (j := 0) (by
      match ms, few with
      | [], _ => rfl
      | [a], _ => rfl
      | [a, b], _ => rfl)
    have at1 : atI (ms.map V.int ++ [.int 0, .int 0]) (1 : Int) = some (.int (secondOf ms)) := atI_nat (j := 1) (by
      match ms, few with
      | [], _ => rfl
      | [a], _ => rfl
      | [a, b], _ => rfl)
    have e6 : (10 : Int) ^ (6 : Int).toNat = 1000000 := by decide
    refine ⟨(by decide : (6 : Nat) ≤ sizeLine), fun w6 n6 _ => ⟨.inl ⟨rfl, _, SqL.of upd_same⟩, _, rfl, ix_sq (.inl (SqT.of (same_new n6 _ _ (s1 _ _ ht)))) (atI_nat (j := 0) rfl) ⟨w6, units6.map V.str, .str y, wordIx y, .str y, rfl, rfl, SqL.of upd_same, rfl, by decide +kernel, x1, eqV_str y, x2, ?_⟩⟩⟩
    have s2 := same_new (o := .lst (units6.map V.str)) n6
    refine ⟨_, _, rfl, rfl, ⟨by decide, by decide, by decide⟩, .inl ⟨_, _, rfl, rfl, cmulL (by omega) (by omega), _, rfl, ix_sq (.inr (SqL.of (s2 _ _ hq))) at0 (.inl ⟨_, _, rfl, rfl, cmulL (by omega) (by omega), .inl ⟨_, _, rfl, rfl, _, rfl, ix_sq (.inr (SqL.of (s2 _ _ hq))) at1 (.inl ⟨_, _, rfl, rfl, ?_⟩)⟩⟩)⟩⟩
    rw [e6]
    exact k _ (s1.trans s2)
end
end L2.K32
set_option Elab.async false
set_option linter.all false
set_option maxRecDepth 100000
set_option maxHeartbeats 4000000
/-! Sorted by the keys of a dict. -/
namespace L2.RV
open PySem PySem.Spec PyProof.Rows
abbrev kInt (r : Int) : Key := .inl r
def tIntQ (t : TA) : TE := tCB (fun xs H Q => (∃ i, xs = [.int i] ∧ Q (.int i) H) ∨ ∃ k, xs = [.bl k] ∧ Q (.int (if k then 1 else 0)) H) t
/-- [int(k) for k in d], the dict locked -/
theorem intkeysG {σ : L2.St} {H : Hp} {Q : VK} {D : Addr} {kvs : List (Key × V)} {rs : List Int} {i j : Nat} (vi : σ[i]? = some (some (.ref D))) (lj : j < σ.length) (ij : i ≠ j) (hD : H D = some (.dK kvs)) (few : kvs.length ≤ 1000) (ek : kvs.map (·.1) = rs.map kInt)
    (k : ∀ H' q, Same H H' → H' q = some (.lst (rs.map V.int)) → Q (.ref q) H') : tLockE (tLc (iKeys (tVar i)) (gName j) tYes (tIntQ (tCons (tVar j) tNil)) [j]) σ H Q := by
  refine ⟨D, .dK kvs, hD, True.intro, fun od => ⟨_, vi, D, od, rfl, .inl ⟨kvs, upd_same, fun D2 nD2 => ?_⟩⟩⟩
  have ne : D2 ≠ D := fun z => by
    rw [z, upd_same] at nD2
    cases nD2
  have nH : H D2 = none := by rw [upd_ne ne] at nD2; exact nD2
  have el : rs.length = kvs.length := by
    have := congrArg List.length ek
    rw [List.length_map, List.length_map] at this
    exact this.symm
  refine lc_it walk_keys (fun n H' => H' D = some (.frz od (.dK kvs)) ∧ H' D2 = some (.lst ((rs.take n).map V.int)) ∧ ∀ b o, b ≠ D → H b = some o → H' b = some o) ⟨?_, upd_same, fun b o nb e => ?_⟩ (fun n H' _ q => q.1) (fun n x H' H2 hn q y => ?_) (fun H' q => ?_)
  · rw [upd_ne ne.symm, upd_same]
  · rw [upd_ne (ne_of_none e nH), upd_ne nb]
    exact e
  · obtain ⟨rfl, k1, v1, hk, rfl⟩ := y
    obtain ⟨a, b, c⟩ := q
    have lt : n < rs.length := by rw [el]; exact hn
    have hk1 : k1 = kInt rs[n] := by
      have z : (kvs.map (·.1))[n]? = some k1 := by rw [List.getElem?_map, hk]; rfl
      rw [ek, List.getElem?_map, List.getElem?_eq_getElem lt] at z
      exact (Option.some.inj z).symm
    subst hk1
    refine ⟨by simp only [wipe, List.set_set], ?_⟩
    simp only [tYes, ↓reduceIte]
    refine ⟨_, List.getElem?_set_self (by simp only [wipe, List.length_set]; exact lj), .inl ⟨rs[n], rfl, _, b, ?_, ?_, ?_, fun b' o nb e => ?_⟩⟩
    · rw [List.length_map, List.length_take, sizeLine_eq]
      omega
    · rw [upd_ne ne.symm]
      exact a
    · rw [upd_same]
      have e : rs.take (n + 1) = rs.take n ++ [rs[n]] := (List.take_append_getElem lt).symm
      rw [e, List.map_append]
      rfl
    · rw [upd_ne (ne_of_none e nH)]
      exact c b' o nb e
  · obtain ⟨a, b, c⟩ := q
    refine ⟨a, k _ D2 (fun b' o e => ?_) ?_⟩
    · by_cases z : b' = D
      · subst z
        rw [upd_same, ← e, hD]
      · rw [upd_ne z]
        exact c b' o z e
    · rw [upd_ne ne, b, ← el, List.take_length]
/-- [d[k] for k in sorted([int(k) for k in d])] -/
theorem sortL_ok {K : PySem.W.Frag} {σ : L2.St} {H : Hp} {Q : VK} {D : Addr} {kvs : List (Key × V)} {rs : List Int} {f : Int → V} {i j : Nat} (vi : σ[i]? = some (some (.ref D))) (lj : j < σ.length) (ij : i ≠ j) (hD : H D = some (.dK kvs)) (few : kvs.length ≤ 1000) (ek : kvs.map (·.1) = rs.map kInt)
    (vals : ∀ r, r ∈ rs → valV kvs (kInt r) = some (f r))
    (k : ∀ H' q (rs' : List Int), rs'.Perm rs → rs'.Pairwise (· ≤ ·) → Same H H' → H' q = some (.lst (rs'.map f)) → Q (.ref q) H') :
    tLc (iList K (tCB (rSortedI K) (tCons (tLockE (tLc (iKeys (tVar i)) (gName j) tYes (tIntQ (tCons (tVar j) tNil)) [j])) tNil))) (gName j) tYes (tDGet (tVar i) (tVar j)) [j] σ H Q := by
  have el : rs.length = kvs.length := by
    have := congrArg List.length ek
    rw [List.length_map, List.length_map] at this
    exact this.symm
  refine intkeysG vi lj ij hD few ek fun H1 q s1 hq => ⟨q, rs, rfl, SqL.of hq, fun rs' q2 perm srt n2 => ⟨q2, rfl, ⟨_, SqL.of upd_same⟩, fun D3 n3 => ?_⟩⟩
  have s2 := same_new (o := .lst (rs'.map V.int)) n2
  have h2 : upd H1 q2 (.lst (rs'.map V.int)) q2 = some (.lst (rs'.map V.int)) := upd_same
  have hD1 := (s1.trans s2) _ _ hD
  generalize upd H1 q2 (.lst (rs'.map V.int)) = H2 at s2 h2 n3 hD1 ⊢
  have el' : rs'.length = rs.length := perm.length_eq
  refine lc_list (xs := rs'.map V.int) (fun n H' => Same H2 H' ∧ H' D3 = some (.lst ((rs'.take n).map f))) ⟨same_new n3, upd_same⟩ (fun n H' _ p => SqL.of (p.1 _ _ h2)) (fun n x H' hx p => ?_) (fun H' p => ?_)
  · rw [List.getElem?_map] at hx
    obtain ⟨r, hr, rfl⟩ := Option.map_eq_some_iff.mp hx
    have lt : n < rs'.length := by
      rcases Nat.lt_or_ge n rs'.length with z | z
      · exact z
      · rw [List.getElem?_eq_none z] at hr
        cases hr
    refine ⟨by simp only [wipe, List.set_set], ?_⟩
    simp only [tYes, ↓reduceIte]
    have g2 : ((wipe σ [j]).set j (some (V.int r)))[i]? = some (some (.ref D)) := by
      simp only [wipe]
      rw [List.getElem?_set_ne (Ne.symm ij), List.getElem?_set_ne (Ne.symm ij)]
      exact vi
    have dg := DGet.k (k := kInt r) (p.1 _ _ hD1)
    rw [vals r (perm.mem_iff.mp (List.mem_of_getElem? hr))] at dg
    refine ⟨_, g2, _, List.getElem?_set_self (by simp only [wipe, List.length_set]; exact lj), D, _, rfl, dg, _, p.2, ?_, fun b o e => ?_, ?_⟩
    · rw [List.length_map, List.length_take, sizeLine_eq]
      omega
    · rw [upd_ne (ne_of_none e n3)]
      exact p.1 b o e
    · rw [upd_same]
      have e : rs'.take (n + 1) = rs'.take n ++ [r] := by
        rw [List.getElem?_eq_getElem lt] at hr
        cases hr
        exact (List.take_append_getElem lt).symm
      rw [e, List.map_append]
      rfl
  · rw [List.length_map, List.take_length] at p
    exact k _ D3 rs' perm srt ((s1.trans s2).trans p.1) p.2
/-- what a dict made of pairs holds -/
theorem merge_inv {more : List (Key × V)} : ∀ {kvs : List (Key × V)}, (kvs.map (·.1)).Nodup → ((mergeK kvs more).map (·.1)).Nodup ∧ (∀ k v, valV (mergeK kvs more) k = some v → (k, v) ∈ more ∨ valV kvs k = some v) ∧ (∀ k v, (k, v) ∈ more → (valV (mergeK kvs more) k).isSome = true) ∧ (∀ k, (valV kvs k).isSome = true → (valV (mergeK kvs more) k).isSome = true) ∧ (mergeK kvs more).length ≤ kvs.length + more.length := by
  induction more with
  | nil => exact fun h => ⟨h, fun k v e => .inr e, fun k v m => (by cases m), fun k e => e, Nat.le_refl _⟩
  | cons p more ih =>
    intro kvs h
    obtain ⟨a, b, c, d, e⟩ := ih (kvs := putK kvs p.1 p.2) (nodup_put h)
    refine ⟨a, fun k v z => ?_, fun k v m => ?_, fun k z => ?_, ?_⟩
    · rcases b k v z with m | y
      · exact .inl (List.mem_cons_of_mem _ m)
      · rw [valV_put] at y
        split at y
        · rename_i hk
          cases y
          subst hk
          exact .inl List.mem_cons_self
        · exact .inr y
    · rcases List.mem_cons.mp m with rfl | m
      · exact d _ (by rw [valV_put, if_pos rfl]; rfl)
      · exact c k v m
    · refine d k ?_
      rw [valV_put]
      split
      · rfl
      · exact z
    · have := length_putK kvs p.1 p.2
      show (mergeK (putK kvs p.1 p.2) more).length ≤ kvs.length + (more.length + 1)
      omega
end L2.RV
namespace L2.K32
open PySem PySem.Spec PyProof.Rows L2.RV
theorem cb1_of {r : List V → Hp → VK → Prop} {te : TE} {σ : L2.St} {H : Hp} {Q : VK} (h : te σ H fun v H1 => r [v] H1 Q) : tCB r (tCons te tNil) σ H Q := h
/-- a unit of the law's own: where it stands, its word, its numbers -/
abbrev LU := V × Str × List Int
def txt (u : LU) : Str := textOf u.2.1 u.2.2
structure AllU (H : Hp) (p : Addr) (us : List LU) : Prop where
  at_ : ∀ u, u ∈ us → UnitAt H p u.1 u.2.1 u.2.2
  ok : ∀ u, u ∈ us → Parts u.2.1 u.2.2
theorem AllU.keep {H H' : Hp} {p : Addr} {us : List LU} (a : AllU H p us) (k : Keep p H H') : AllU H' p us := ⟨fun u m => (a.at_ u m).keep k, a.ok⟩
/-- _law_ordered(units) -/
def spLOrdered : Sp := fun vs H Q _ => ∃ (p q : Addr) (us : List LU), vs = [.ref q] ∧ H q = some (.lst (us.map (·.1))) ∧ us.length ≤ 60 ∧ AllU H p us ∧
  ∀ H' q' (L : List LU), Same H H' → H' q' = some (.lst (L.map (·.1))) → AllU H' p L → (L.map txt).Pairwise (fun a b => rankU a < rankU b) → (∀ x, x ∈ L.map txt ↔ x ∈ us.map txt) → L.length ≤ us.length → Q (.ref q') H'
/-- [(_law_rank(u), u) for u in units] -/
theorem pairs_ok {K : PySem.W.Frag} {σ : L2.St} {H : Hp} {Q : VK} {p q : Addr} {us : List LU} (v0 : σ[0]? = some (some (.ref q))) (l3 : 3 < σ.length) (hq : H q = some (.lst (us.map (·.1)))) (few : us.length ≤ 60) (au : AllU H p us)
    (k : ∀ H' D ps, Same H H' → H' D = some (.lst (ps.map V.ref)) → Paired (fun a kv => SqT K H' a [kV kv.1, kv.2]) ps (us.map fun u => (kInt (lawRank u.2.1 u.2.2), u.1)) → Q (.ref D) H') :
    tLc (iList K (tVar 0)) (gName 3) tYes (tTup (tCons (tCall spLRank [] E0 (tCons (tVar 3) tNil)) (tCons (tVar 3) tNil))) [3] σ H Q := by
  refine ⟨_, v0, q, rfl, ⟨_, SqL.of hq⟩, fun D nD => ?_⟩
  refine lc_list (xs := us.map (·.1)) (fun n H' => Same H H' ∧ ∃ ps, H' D = some (.lst (ps.map V.ref)) ∧ ps.length = n ∧ Paired (fun a kv => SqT K H' a [kV kv.1, kv.2]) ps ((us.take n).map fun u => (kInt (lawRank u.2.1 u.2.2), u.1))) ⟨same_new nD, [], upd_same, rfl, .nil⟩ (fun n H' _ p => SqL.of (p.1 _ _ hq)) (fun n x H' hx pv => ?_) (fun H' pv => ?_)
  · obtain ⟨s1, ps, hD, lp, pr⟩ := pv
    rw [List.getElem?_map] at hx
    obtain ⟨u, hu, rfl⟩ := Option.map_eq_some_iff.mp hx
    have lt : n < us.length := by
      rcases Nat.lt_or_ge n us.length with z | z
      · exact z
      · rw [List.getElem?_eq_none z] at hu
        cases hu
    have mem := List.mem_of_getElem? hu
    have g3 : ((wipe σ [3]).set 3 (some u.1))[3]? = some (some u.1) := List.getElem?_set_self (by simp only [wipe, List.length_set]; exact l3)
    refine ⟨by simp only [wipe, List.set_set], ?_⟩
    simp only [tYes, ↓reduceIte]
    refine ⟨_, g3, p, u.1, u.2.1, u.2.2, rfl, (au.at_ u mem).keep (Keep.of s1), au.ok u mem, fun H2 s2 => ⟨_, g3, (by decide : (2 : Nat) ≤ sizeLine), fun a na => ?_⟩⟩
    have s3 := same_new (o := .tup [.int (lawRank u.2.1 u.2.2), u.1]) na
    have s23 := s2.trans s3
    refine ⟨_, s23 _ _ hD, by rw [List.length_map, sizeLine_eq]; omega, same_updN (s1.trans s23) nD, ps ++ [a], ?_, by rw [List.length_append, lp]; rfl, ?_⟩
    · rw [upd_same, List.map_append]
      rfl
    · have e : us.take (n + 1) = us.take n ++ [u] := by
        rw [List.getElem?_eq_getElem lt] at hu
        cases hu
        exact (List.take_append_getElem lt).symm
      rw [e, List.map_append]
      have up : ∀ b xs, SqT K H' b xs → SqT K (upd (upd H2 a (.tup [.int (lawRank u.2.1 u.2.2), u.1])) D (.lst (ps.map V.ref ++ [.ref a]))) b xs := fun b xs st => by
        rcases st with z | z
        · refine .inl (Rd.keep z fun o e => ?_)
          have nb : b ≠ D := fun y => by
            subst y
            rcases z with z | ⟨o', z⟩
            · rw [hD] at z; cases z
            · rw [hD] at z; cases z
          rw [upd_ne nb]
          exact s23 _ _ e
        · exact .inr z
      refine Paired.snoc (Paired.mapP pr fun b kv st => up b _ st) (SqT.of ?_)
      have na' : a ≠ D := fun y => by
        rw [y, s2 _ _ hD] at na
        cases na
      rw [upd_ne na']
      exact upd_same
  · obtain ⟨s1, ps, hD, lp, pr⟩ := pv
    rw [List.length_map, List.take_length] at pr
    exact k _ D ps s1 hD pr
section
variable {P : Program} {w : World} {K : PySem.W.Frag} {mg : Str → Option Value} {base : Heap} {fd : FuncData}
theorem ok_law_ordered (T : Top w K mg) (D_law_rank : Def P w K mg base "_law_rank" 1 ["_law_unit_here"] spLRank) (F : Fn K "_law_ordered" s_law_ordered fd) : FnOk P w K mg base CX0 2 (He.ga K "_law_ordered") fd ["_law_units"] spLOrdered := by
  refine F.ok sc_law_ordered (fun vs H Q E h => ?_) (fun cdv A outer s H vs Q E hr h => ?_)
  · obtain ⟨p, q, us, rfl, _⟩ := h
    rfl
  · obtain ⟨p, q, us, rfl, hq, few, au, k⟩ := h
    have hu := hr.units
    refine ⟨_, PSs.nox (pss_cons (ps_set (i := 1) sc_law_ordered.nd rfl (by first | exact Or.inl rfl | exact Or.inr rfl) (pe_callTy (call_dictP rfl) rfl T.n_dict (by decide +kernel) (pa_cons (pe_lc (own := [("_law_unit_here", 3)]) (g := gName 3) (te := tTup (tCons (tCall spLRank [] E0 (tCons (tVar 3) tNil)) (tCons (tVar 3) tNil))) (tt := tYes) (by rfl) sc_law_ordered.nd (pi_list (pv 0)) (blkOk_by (own := [("_law_unit_here", 3)]) (N := ["_law_units", "_law_found", "_law_rank_here", "_law_unit_here"]) (sc := defScope s_law_ordered) (by decide +kernel)) (fun _ _ _ _ _ => by exact (pg_name (i := 3) sc_law_ordered.nd rfl (by first | exact Or.inl rfl | exact Or.inr rfl))) (fun _ _ _ _ _ => by exact pts_nil) (fun _ _ _ _ _ => by exact (pe_tup (pa_cons (pe_callD D_law_rank (hr.mono (by decide)) rfl (pa_cons (pv 3) pa_nil)) (pa_cons (pv 3) pa_nil))))) pa_nil)))
      (pss_one (ps_ret (pe_lc (own := [("_law_rank_here", 2)]) (g := gName 2) (te := tDGet (tVar 1) (tVar 2)) (tt := tYes) (by rfl) sc_law_ordered.nd (pi_list (pe_callB cr_sortedI rfl T.n_sorted (by decide +kernel) (pa_cons (pe_lock (pe_lc (own := [("_law_rank_here", 2)]) (g := gName 2) (te := tIntI (tCons (tVar 2) tNil)) (tt := tYes) (by rfl) sc_law_ordered.nd (pi_keys (pv 1)) (blkOk_by (own := [("_law_rank_here", 2)]) (N := ["_law_units", "_law_found", "_law_rank_here", "_law_unit_here"]) (sc := defScope s_law_ordered) (by decide +kernel)) (fun _ _ _ _ _ => by exact (pg_name (i := 2) sc_law_ordered.nd rfl (by first | exact Or.inl rfl | exact Or.inr rfl))) (fun _ _ _ _ _ => by exact pts_nil) (fun _ _ _ _ _ => by exact (pe_callTy call_int1 rfl T.n_int (by decide +kernel) (pa_cons (pv 2) pa_nil))))) pa_nil))) (blkOk_by (own := [("_law_rank_here", 2)]) (N := ["_law_units", "_law_found", "_law_rank_here", "_law_unit_here"]) (sc := defScope s_law_ordered) (by decide +kernel)) (fun _ _ _ _ _ => by exact (pg_name (i := 2) sc_law_ordered.nd rfl (by first | exact Or.inl rfl | exact Or.inr rfl))) (fun _ _ _ _ _ => by exact pts_nil) (fun _ _ _ _ _ => by exact (pe_dget (Nat.lt_of_le_of_lt (Nat.add_le_add_left (by decide) _) hu) (pv 1) (pv 2) (fun _ _ => rfl))))))), ?_⟩
    refine set_of (cb1_of (pairs_ok rfl (by show 3 < 4; decide) hq few au fun H1 D ps s1 hD pr => ⟨D, ps, _, rfl, SqL.of hD, pr, fun d nd => ?_⟩))
    have s2 := same_new (o := .dK (mergeK [] (us.map fun u => (kInt (lawRank u.2.1 u.2.2), u.1)))) nd
    have hd : upd H1 d (.dK (mergeK [] (us.map fun u => (kInt (lawRank u.2.1 u.2.2), u.1)))) d = some (.dK (mergeK [] (us.map fun u => (kInt (lawRank u.2.1 u.2.2), u.1)))) := upd_same
    obtain ⟨nd', b, c, _, e⟩ := merge_inv (more := us.map fun u => (kInt (lawRank u.2.1 u.2.2), u.1)) (kvs := []) List.nodup_nil
    generalize mergeK [] (us.map fun u => (kInt (lawRank u.2.1 u.2.2), u.1)) = kvs at s2 hd nd' b c e ⊢
    have lk : kvs.length ≤ us.length := by rw [List.length_map] at e; exact Nat.le_trans e (by show 0 + us.length ≤ us.length; omega)
    have from_ : ∀ k v, valV kvs k = some v → ∃ u, u ∈ us ∧ k = kInt (lawRank u.2.1 u.2.2) ∧ v = u.1 := fun k v z => by
      rcases b k v z with m | y
      · obtain ⟨u, hu, e⟩ := List.mem_map.mp m
        cases e
        exact ⟨u, hu, rfl, rfl⟩
      · cases y
    have keys : ∀ k', k' ∈ kvs.map (·.1) → ∃ r, k' = kInt r := fun k' hk' => by
      rw [mem_keys] at hk'
      obtain ⟨v, hv⟩ := Option.isSome_iff_exists.mp hk'
      obtain ⟨u, _, e, _⟩ := from_ _ _ hv
      exact ⟨_, e⟩
    obtain ⟨rs, ek⟩ := ints_of keys
    have nr : rs.Nodup := by
      have z := nd'
      rw [ek] at z
      exact List.Pairwise.of_map kInt (fun a b h e => h (congrArg _ e)) z
    have each : ∀ r, r ∈ rs → ∃ u, u ∈ us ∧ r = lawRank u.2.1 u.2.2 ∧ valV kvs (kInt r) = some u.1 := fun r hr => by
      have m : kInt r ∈ kvs.map (·.1) := by rw [ek]; exact List.mem_map.mpr ⟨r, hr, rfl⟩
      rw [mem_keys] at m
      obtain ⟨v, hv⟩ := Option.isSome_iff_exists.mp m
      obtain ⟨u, hu, e, ev⟩ := from_ _ _ hv
      exact ⟨u, hu, Sum.inl.inj e, by rw [hv, ev]⟩
    obtain ⟨g, hg⟩ : ∃ g : Int → LU, ∀ r, r ∈ rs → g r ∈ us ∧ r = lawRank (g r).2.1 (g r).2.2 ∧ valV kvs (kInt r) = some (g r).1 := by
      refine ⟨fun r => if h : r ∈ rs then Classical.choose (each r h) else (.non, Str.empty, []), fun r hr => ?_⟩
      simp only [dif_pos hr]
      exact Classical.choose_spec (each r hr)
    refine sortL_ok (f := fun r => (g r).1) rfl (by show 2 < 4; decide) (by decide) hd (by omega) ek (fun r hr => (hg r hr).2.2) fun H3 q' rs' perm srt s3 hq' => ?_
    have mem' : ∀ r, r ∈ rs' → r ∈ rs := fun r hr => perm.mem_iff.mp hr
    have s13 := (s1.trans s2).trans s3
    refine k H3 q' (rs'.map g) s13 (by rw [List.map_map]; exact hq') ⟨fun u hu' => ?_, fun u hu' => ?_⟩ ?_ (fun x => ?_) ?_
    · obtain ⟨r, hr, rfl⟩ := List.mem_map.mp hu'
      exact (au.at_ _ (hg r (mem' r hr)).1).keep (Keep.of s13)
    · obtain ⟨r, hr, rfl⟩ := List.mem_map.mp hu'
      exact au.ok _ (hg r (mem' r hr)).1
    · rw [List.map_map, List.pairwise_map]
      refine List.Pairwise.imp_of_mem (fun {a b} ha hb z => ?_) (srt.and (perm.symm.nodup nr))
      have pa := hg a (mem' a ha)
      have pb := hg b (mem' b hb)
      have oa := au.ok _ pa.1
      have ob := au.ok _ pb.1
      show rankU (textOf (g a).2.1 (g a).2.2) < rankU (textOf (g b).2.1 (g b).2.2)
      rw [oa.rankU, ob.rankU]
      refine (law_rank_lt oa ob).mp ?_
      rw [← pa.2.1, ← pb.2.1]
      have z1 := z.1
      have z2 := z.2
      omega
    · rw [List.map_map, List.mem_map, List.mem_map]
      constructor
      · rintro ⟨r, hr, rfl⟩
        exact ⟨g r, (hg r (mem' r hr)).1, rfl⟩
      · rintro ⟨u, hu', rfl⟩
        have m : kInt (lawRank u.2.1 u.2.2) ∈ kvs.map (·.1) := mem_keys.mpr (c _ u.1 (List.mem_map.mpr ⟨u, hu', rfl⟩))
        rw [ek] at m
        obtain ⟨r, hr, er⟩ := List.mem_map.mp m
        have er' : r = lawRank u.2.1 u.2.2 := Sum.inl.inj er
        have pr' := hg r hr
        refine ⟨r, perm.mem_iff.mpr hr, ?_⟩
        show textOf (g r).2.1 (g r).2.2 = textOf u.2.1 u.2.2
        exact law_rank_eq (au.ok _ pr'.1) (au.ok _ hu') (by rw [← pr'.2.1, er'])
    · rw [List.length_map, perm.length_eq]
      have z := congrArg List.length ek
      rw [List.length_map, List.length_map] at z
      omega
end
end L2.K32
set_option Elab.async false
set_option linter.all false
set_option maxRecDepth 100000
set_option maxHeartbeats 4000000
/-! The law's own word on which texts are units. -/
namespace L2.K32
open PySem PySem.Spec PyProof.Rows L2.RV
/-- _law_is_unit(value), of a text -/
def spLIsUnit : Sp := fun vs H Q _ => ∃ x : Str, vs = [.str x] ∧ x.length ≤ 50 ∧ PyData.strOk x = true ∧ ∀ H', Same H H' → Q (.bl (unitV (.str x))) H'
theorem one_all : ∀ c : Fin 10, wholeText ⟨#[48 + c.val]⟩ = true ∧ wholeNum ⟨#[48 + c.val]⟩ = ((c.val : Nat) : Int) := by decide +kernel
theorem two_all : ∀ c d : Fin 10, (toString (((c.val * 10 + d.val : Nat)) : Int) : Str) = ⟨#[48 + c.val, 48 + d.val]⟩ → wholeText ⟨#[48 + c.val, 48 + d.val]⟩ = true ∧ wholeNum ⟨#[48 + c.val, 48 + d.val]⟩ = ((c.val * 10 + d.val : Nat) : Int) := by decide +kernel
theorem num_signs : ∀ k : Fin 100, (toString ((k.val : Nat) : Int) : Str).length ≤ 2 ∧ (toString ((k.val : Nat) : Int) : Str) ≠ "" ∧ ((toString ((k.val : Nat) : Int) : Str).cps.toList.all fun c => decide (c ∈ ("0123456789" : Str).cps.toList)) = true := by decide +kernel
def goodW (y : Str) (i : Nat) (t : Str) : Bool := wholeText t && numB y i t
theorem good_num {y : Str} {i : Nat} {t : Str} (g : goodW y i t = true) (l : t.length ≤ 50) : ∃ n : Int, 0 ≤ n ∧ n ≤ 99 ∧ t = toString n ∧ (y = "cell" ∧ i = 0 → 1 ≤ n) := by
  obtain ⟨a, b⟩ := Bool.and_eq_true_iff.mp g
  have pl := num_plain a l b
  have nv := numV_int (x := y) (i := i) (u := .int (wholeNum t)) b
  obtain ⟨e, e0⟩ := whole_small a pl nv.2.2
  refine ⟨wholeNum t, e0, nv.2.2, e, fun c => ?_⟩
  obtain ⟨z, _⟩ := Bool.and_eq_true_iff.mp (show (decide ((if y = "cell" ∧ (i : Int) = 0 then (1 : Int) else 0) ≤ wholeNum t) && decide (wholeNum t ≤ 99)) = true from b)
  have z' := of_decide_eq_true z
  rw [if_pos ⟨c.1, by omega⟩] at z'
  exact z'
/-- one or two figures -/
theorem fig_cases {t : Str} (ne : t ≠ "") (l : t.length ≤ 2) (all : (t.cps.toList.all fun c => decide (c ∈ ("0123456789" : Str).cps.toList)) = true) : (∃ c : Fin 10, t = ⟨#[48 + c.val]⟩) ∨ ∃ c d : Fin 10, t = ⟨#[48 + c.val, 48 + d.val]⟩ := by
  have dig : ∀ c, c ∈ t.cps.toList → ∃ k : Fin 10, c = 48 + k.val := fun c hc => by
    have m := of_decide_eq_true (List.all_eq_true.mp all c hc)
    have m' : c ∈ ([48, 49, 50, 51, 52, 53, 54, 55, 56, 57] : List Nat) := m
    simp only [List.mem_cons, List.not_mem_nil, or_false] at m'
    exact ⟨⟨c - 48, by omega⟩, by show c = 48 + (c - 48); omega⟩
  have ll : t.cps.toList.length = t.length := Array.length_toList
  match h : t.cps.toList with
  | [] => exact absurd (str_list h) ne
  | [c] =>
    obtain ⟨k, hk⟩ := dig c (by rw [h]; simp)
    exact .inl ⟨k, by rw [str_list h, hk]⟩
  | [c, d] =>
    obtain ⟨k, hk⟩ := dig c (by rw [h]; simp)
    obtain ⟨m, hm⟩ := dig d (by rw [h]; simp)
    exact .inr ⟨k, m, by rw [str_list h, hk, hm]⟩
  | a :: b :: c :: r =>
    rw [h] at ll
    have : r.length + 3 = t.length := ll
    omega
theorem fig_int {t : Str} (ne : t ≠ "") (l : t.length ≤ 2) (all : (t.cps.toList.all fun c => decide (c ∈ ("0123456789" : Str).cps.toList)) = true) : PySem.intText? t = some ((NumText.digitsVal t.cps.toList : Nat) : Int) ∧ NumText.digitsVal t.cps.toList ≤ 99 := by
  have ll : t.cps.toList.length = t.length := Array.length_toList
  refine ⟨intText_digits (fun c hc => ?_) (fun z => ne (str_list z)) (by omega), ?_⟩
  · have m := of_decide_eq_true (List.all_eq_true.mp all c hc)
    have m' : c ∈ ([48, 49, 50, 51, 52, 53, 54, 55, 56, 57] : List Nat) := m
    simp only [List.mem_cons, List.not_mem_nil, or_false] at m'
    omega
  · rcases fig_cases ne l all with ⟨c, rfl⟩ | ⟨c, d, rfl⟩
    · have := c.isLt
      show 0 * 10 + (48 + c.val - 48) ≤ 99
      omega
    · have := c.isLt
      have := d.isLt
      show (0 * 10 + (48 + c.val - 48)) * 10 + (48 + d.val - 48) ≤ 99
      omega
theorem fig_good {y : Str} {i : Nat} {t : Str} (ne : t ≠ "") (l : t.length ≤ 2) (all : (t.cps.toList.all fun c => decide (c ∈ ("0123456789" : Str).cps.toList)) = true) (e : (toString ((NumText.digitsVal t.cps.toList : Nat) : Int) : Str) = t) (z : ¬ (y = "cell" ∧ i = 0 ∧ t = "0")) : goodW y i t = true := by
  have key : wholeText t = true ∧ wholeNum t = ((NumText.digitsVal t.cps.toList : Nat) : Int) := by
    rcases fig_cases ne l all with ⟨c, rfl⟩ | ⟨c, d, rfl⟩
    · have v : NumText.digitsVal (⟨#[48 + c.val]⟩ : Str).cps.toList = c.val := by show 0 * 10 + (48 + c.val - 48) = c.val; omega
      rw [v]
      exact one_all c
    · have v : NumText.digitsVal (⟨#[48 + c.val, 48 + d.val]⟩ : Str).cps.toList = c.val * 10 + d.val := by show (0 * 10 + (48 + c.val - 48)) * 10 + (48 + d.val - 48) = _; omega
      rw [v] at e ⊢
      exact two_all c d e
  have le := (fig_int ne l all).2
  refine Bool.and_eq_true_iff.mpr ⟨key.1, ?_⟩
  show (decide ((if y = "cell" ∧ (i : Int) = 0 then (1 : Int) else 0) ≤ wholeNum t) && decide (wholeNum t ≤ 99)) = true
  rw [key.2]
  refine Bool.and_eq_true_iff.mpr ⟨decide_eq_true ?_, decide_eq_true (by omega)⟩
  split
  · rename_i c
    rcases Nat.eq_zero_or_pos (NumText.digitsVal t.cps.toList) with q | q
    · refine absurd ⟨c.1, by omega, ?_⟩ z
      rw [q] at e
      exact e.symm
    · omega
  · omega
def K6 : List (Key × V) := [(.inr "block", .int 1), (.inr "page", .int 1), (.inr "cell", .int 2), (.inr "bucket", .int 1), (.inr "parity", .int 2), (.inr "journal", .int 0)]
theorem cnt_word {y : Str} (h : isWord y = true) : valV K6 (.inr y) = some (.int (numOf y)) := by
  rcases word6 h with rfl | rfl | rfl | rfl | rfl | rfl <;> rfl
theorem cnt_none {y : Str} (h : isWord y = false) : valV K6 (.inr y) = none := by
  cases e : valV K6 (.inr y) with
  | none => rfl
  | some v =>
    have m : (Sum.inr y : Key) ∈ K6.map (·.1) := mem_keys.mpr (by rw [e]; rfl)
    have : isWord y = true := by
      have m' : (Sum.inr y : Key) ∈ ([.inr "block", .inr "page", .inr "cell", .inr "bucket", .inr "parity", .inr "journal"] : List Key) := m
      simp only [List.mem_cons, List.not_mem_nil, or_false] at m'
      rcases m' with z | z | z | z | z | z <;> (cases z; decide +kernel)
    rw [h] at this
    cases this
theorem unitW_good {y : Str} {ts : List Str} (hb : isWord y = true) (hl : (ts.length : Int) = numOf y) : unitW y ts = ts.zipIdx.all fun p => goodW y p.2 p.1 := by
  unfold unitW
  rw [if_pos hb, if_pos (decide_eq_true hl)]
  have e : (ts.zipIdx.all fun p => goodW y p.2 p.1) = ((ts.zipIdx.all fun p => wholeText p.1) && ts.zipIdx.all fun p => numB y p.2 p.1) := by
    unfold goodW
    generalize ts.zipIdx = zs
    induction zs with
    | nil => rfl
    | cons z zs ih =>
      rw [List.all_cons, List.all_cons, List.all_cons, ih]
      cases wholeText z.1 <;> cases numB y z.2 z.1 <;> cases (zs.all fun p => wholeText p.1) <;> rfl
  have f : (ts.zipIdx.all fun p => wholeText p.1) = ts.all wholeText := by
    have g : ts.zipIdx.map (·.1) = ts := List.zipIdx_map_fst ..
    have g2 := congrArg (fun l => List.all l wholeText) g
    rw [List.all_map] at g2
    exact g2
  rw [e, f]
  cases ts.all wholeText <;> rfl
theorem joinL_mem (sep : List Nat) {c : Nat} : ∀ {ls : List (List Nat)} {l : List Nat}, l ∈ ls → c ∈ l → c ∈ TL.joinL sep ls
  | [x], l, m, h => by
    rcases List.mem_singleton.mp m with rfl
    exact h
  | x :: z :: r, l, m, h => by
    show c ∈ x ++ (sep ++ TL.joinL sep (z :: r))
    rcases List.mem_cons.mp m with rfl | m
    · exact List.mem_append_left _ h
    · exact List.mem_append_right _ (List.mem_append_right _ (joinL_mem sep m h))
theorem split_strOk {x t : Str} (so : PyData.strOk x = true) (m : t ∈ Txt.split x " ") : PyData.strOk t = true := by
  have j := StrLaws.join_split x " "
  have j' : TL.tl x = TL.joinL (TL.tl " ") ((Txt.split x " ").map TL.tl) := by
    rw [← TL.tl_join]
    exact congrArg TL.tl j.symm
  unfold PyData.strOk at so ⊢
  rw [← Array.all_toList] at so ⊢
  refine List.all_eq_true.mpr fun c hc => List.all_eq_true.mp so c ?_
  show c ∈ TL.tl x
  rw [j']
  exact joinL_mem _ (List.mem_map.mpr ⟨t, m, rfl⟩) hc
theorem num_back : ∀ k : Fin 100, NumText.digitsVal (toString ((k.val : Nat) : Int) : Str).cps.toList = k.val ∧ ((toString ((k.val : Nat) : Int) : Str) = "0" → k.val = 0) := by decide +kernel
theorem good_facts {y : Str} {i : Nat} {t : Str} (g : goodW y i t = true) (l : t.length ≤ 50) : t ≠ "" ∧ t.length ≤ 2 ∧ (t.cps.toList.all fun c => decide (c ∈ ("0123456789" : Str).cps.toList)) = true ∧ (toString ((NumText.digitsVal t.cps.toList : Nat) : Int) : Str) = t ∧ ¬ (y = "cell" ∧ i = 0 ∧ t = "0") := by
  obtain ⟨n, n0, n99, rfl, hc⟩ := good_num g l
  obtain ⟨k, rfl⟩ := Int.eq_ofNat_of_zero_le n0
  have lt : k < 100 := by omega
  obtain ⟨a, b, c⟩ := num_signs ⟨k, lt⟩
  obtain ⟨d, e⟩ := num_back ⟨k, lt⟩
  refine ⟨b, a, c, congrArg (fun z : Nat => (toString (z : Int) : Str)) d, fun ⟨h1, h2, h3⟩ => ?_⟩
  have z : k = 0 := e h3
  have := hc ⟨h1, h2⟩
  omega
theorem zip_at {ts : List Str} {n : Nat} (hn : n < ts.length) {f : Str × Nat → Bool} (h : ts.zipIdx.all f = true) : f (ts[n], n) = true := by
  have lz : n < ts.zipIdx.length := by rw [List.length_zipIdx]; exact hn
  have e : ts.zipIdx[n] = (ts[n], n) := by rw [List.getElem_zipIdx, Nat.zero_add]
  rw [← e]
  exact List.all_eq_true.mp h _ (List.getElem_mem lz)
theorem zip_all {ts : List Str} {f : Str × Nat → Bool} (h : ∀ n (hn : n < ts.length), f (ts[n], n) = true) : ts.zipIdx.all f = true := by
  refine List.all_eq_true.mpr fun p hp => ?_
  obtain ⟨i, hi, rfl⟩ := List.getElem_of_mem hp
  have hi' : i < ts.length := by rw [List.length_zipIdx] at hi; exact hi
  rw [List.getElem_zipIdx, Nat.zero_add]
  exact h i hi'
theorem cut1 (v : V) (vs : List V) : cutV (v :: vs) (some 1) none = vs := by
  have e1 : HT.sIx (v :: vs).length 0 (some 1) = 1 := by
    unfold HT.sIx
    simp
  have e2 : HT.sIx (v :: vs).length (v :: vs).length none = (v :: vs).length := rfl
  unfold cutV
  rw [e1, e2]
  show (vs.take ((vs.length + 1) - 1)) = vs
  rw [Nat.add_sub_cancel, List.take_length]
abbrev sgnR : R2 := fun x y H Q => ∃ (c : Nat) (z : Str), x = .str ⟨#[c]⟩ ∧ y = .str z ∧ Q (.bl (!decide (c ∈ z.cps.toList))) H
def figs (t : Str) : Bool := t.cps.toList.all fun c => decide (c ∈ ("0123456789" : Str).cps.toList)
theorem eqv_nil (xs : List Str) : PyData.eqv (.list (xs.map PyData.str)) (.list ([] : List PyData)) = xs.isEmpty := by
  cases xs with
  | nil => simp [PyData.eqv, PyData.eqvAll]
  | cons x xs => simp [PyData.eqv, PyData.eqvAll]
theorem sign_ok {t : Str} (so : PyData.strOk t = true) {c : Nat} (m : c ∈ t.cps.toList) : PyData.strOk ⟨#[c]⟩ = true := by
  unfold PyData.strOk at so ⊢
  rw [← Array.all_toList] at so ⊢
  have z := List.all_eq_true.mp so c m
  exact List.all_eq_true.mpr fun d hd => by
    rcases List.mem_singleton.mp hd with rfl
    exact z
def nf (c : Nat) : Bool := !decide (c ∈ ("0123456789" : Str).cps.toList)
/-- [sign for sign in t if sign not in "0123456789"] != [] -/
theorem signs_ok {K : PySem.W.Frag} {σ : L2.St} {H : Hp} {Q : Bool → Hp → Prop} {t : Str} {i j : Nat} (vi : σ[i]? = some (some (.str t))) (lj : j < σ.length) (lt : t.length ≤ 60) (so : PyData.strOk t = true)
    (k : ∀ H', Same H H' → Q (!figs t) H') :
    tTest (tOp (rDiff K) (tLc (iStr (tVar i)) (gName j) (tTest (tOp sgnR (tVar j) (tC (.str "0123456789")))) (tVar j) [j]) (tLstN tNil)) σ H Q := by
  refine ⟨_, vi, t, rfl, fun D nD => ?_⟩
  have ll : t.cps.toList.length = t.cps.size := Array.length_toList
  have l60 : t.cps.size ≤ 60 := lt
  refine lc_it walk_str (fun n H' => Same H H' ∧ H' D = some (.lst ((((t.cps.toList.take n).filter nf).map fun c => (⟨#[c]⟩ : Str)).map V.str))) ⟨same_new nD, upd_same⟩ (fun n H' _ p => True.intro) (fun n x H' H2 hn p y => ?_) (fun H' p => ?_)
  · obtain ⟨rfl, c, hc, rfl⟩ := y
    have lt' : n < t.cps.toList.length := by rw [ll]; exact hn
    have hc' : t.cps.toList[n] = c := by
      rw [Array.getElem?_eq_getElem hn] at hc
      rw [Array.getElem_toList]
      exact Option.some.inj hc
    have et : t.cps.toList.take (n + 1) = t.cps.toList.take n ++ [c] := by
      rw [← hc']
      exact (List.take_append_getElem lt').symm
    have g := List.getElem?_set_self (a := some (V.str ⟨#[c]⟩)) (show j < (wipe σ [j]).length by simp only [wipe, List.length_set]; exact lj)
    refine ⟨by simp only [wipe, List.set_set], _, g, c, _, rfl, rfl, _, rfl, ?_⟩
    have small : ((t.cps.toList.take n).filter nf).length ≤ 60 := Nat.le_trans (List.length_filter_le _ _) (by rw [List.length_take]; omega)
    rw [et, List.filter_append]
    refine ite2 (fun b => ?_) (fun b => ?_)
    · refine ⟨_, g, _, p.2, by rw [List.length_map, List.length_map, sizeLine_eq]; omega, same_updN p.1 nD, ?_⟩
      rw [upd_same, List.filter_cons_of_pos (p := nf) b, List.filter_nil, List.map_append, List.map_append]
      rfl
    · rw [List.filter_cons_of_neg (p := nf) b, List.filter_nil, List.append_nil]
      exact p
  · obtain ⟨s1, hD⟩ := p
    rw [← ll, List.take_length] at hD
    generalize hL : (t.cps.toList.filter nf) = L at hD
    refine ⟨(by decide : (0 : Nat) ≤ sizeLine), fun l nl _ => .inr ⟨.list ((L.map fun c => (⟨#[c]⟩ : Str)).map PyData.str), .list [], ?_, ?_, ?_, ?_, _, rfl, ?_⟩⟩
    · exact .lst (SqL.of (same_new nl _ _ hD)) (dpA_str _)
    · exact .lst (SqL.of upd_same) .nil
    · refine shaped_str (List.all_eq_true.mpr fun y hy => ?_)
      obtain ⟨c, hc, rfl⟩ := List.mem_map.mp hy
      rw [← hL] at hc
      exact sign_ok so (List.mem_filter.mp hc).1
    · exact shaped_str (xs := []) rfl
    · rw [eqv_nil]
      have e : (L.map fun c => (⟨#[c]⟩ : Str)).isEmpty = figs t := by
        rw [← hL]
        unfold figs
        generalize t.cps.toList = C
        induction C with
        | nil => rfl
        | cons c C ih =>
          rw [List.all_cons, List.filter_cons]
          unfold nf
          by_cases z : c ∈ ("0123456789" : Str).cps.toList
          · simp only [z, decide_true, Bool.not_true, Bool.true_and, Bool.false_eq_true, if_false]
            exact ih
          · simp only [z, decide_false, Bool.not_false, Bool.false_and, if_true]
            rfl
      rw [e]
      exact k _ (s1.trans (same_new nl))
section
variable {P : Program} {w : World} {K : PySem.W.Frag} {mg : Str → Option Value} {base : Heap} {fd : FuncData}
theorem ok_law_is_unit (T : Top w K mg) (F : Fn K "_law_is_unit" s_law_is_unit fd) : FnOk P w K mg base CX0 2 (He.ga K "_law_is_unit") fd ["_law_value"] spLIsUnit := by
  refine F.ok sc_law_is_unit (fun vs H Q E h => ?_) (fun cdv A outer s H vs Q E hr h => ?_)
  · obtain ⟨x, rfl, _⟩ := h
    rfl
  · obtain ⟨x, rfl, lx, so, k⟩ := h
    have hu := hr.units
    refine ⟨_, PSs.nox (pss_cons (ps_if (pt_not (pt_val (pe_callB call_isi rfl T.n_isinstance (by decide +kernel) (pa_cons (pv 0) (pa_cons (pe_bltn (v := .ty "str") (u := .type "str") rfl T.n_str (by decide +kernel) rfl) pa_nil))))) (pss_one (ps_ret pe_bl)) pss_nil)
      (pss_cons (ps_par (i := 1) (j := 2) (by rfl) sc_law_is_unit.nd rfl rfl (by decide) rfl rfl (pa_cons (pe_bm PySem.F.plainAttrs_str PySem.F.slot_str_split PySem.F.type_str_split mt_split (pv 0) (pa_cons pe_str pa_nil)) (pa_cons (pe_disp (pps_cons pe_str pe_int (pps_cons pe_str pe_int (pps_cons pe_str pe_int (pps_cons pe_str pe_int (pps_cons pe_str pe_int (pps_cons pe_str pe_int pps_nil)))))) (by rfl) (by rfl) (fun z => by cases z) (by decide)) pa_nil)) (by rfl))
      (pss_cons (ps_if (pt_cmpR (op_diff hu) (pe_dget2 (Nat.lt_of_le_of_lt (Nat.add_le_add_left (by decide) _) hu) (pv 2) (pe_ix ix_seq (pv 1) pe_int (fun _ _ => rfl)) (pe_un un_neg pe_int) ⟨rfl, rfl, rfl, rfl⟩) (pe_op op_sub (pe_callB call_len rfl T.n_len (by decide +kernel) (pa_cons (pv 1) pa_nil)) pe_int) (nomark _)) (pss_one (ps_ret pe_bl)) pss_nil)
      (pss_cons (ps_for PassesOwn.never rfl (pi_enum rfl T.n_enumerate (pa_cons (pe_slice sl_list (pv 1) (po_some pe_int) po_none) pa_nil)) (pg_tup rfl (pgs_cons (pg_name (i := 3) sc_law_is_unit.nd rfl (by first | exact Or.inl rfl | exact Or.inr rfl)) (pgs_cons (pg_name (i := 4) sc_law_is_unit.nd rfl (by first | exact Or.inl rfl | exact Or.inr rfl)) pgs_nil))) (pss_cons (ps_if (PW.pt (pw_or (pt_cmpR (op_same hu) (pv 4) pe_str (nomark _)) (pw_or1 (pt_cmpR op_gt (pe_callB call_len rfl T.n_len (by decide +kernel) (pa_cons (pv 4) pa_nil)) pe_int (nomark _))))) (pss_one (ps_ret pe_bl)) pss_nil)
      (pss_cons (ps_if (pt_cmpR (op_diff hu) (pe_lc (own := [("_law_sign", 5)]) (g := gName 5) (te := tVar 5) (tt := tTest (tOp (fun x y H Q => ∃ (c : Nat) (z : Str), x = .str ⟨#[c]⟩ ∧ y = .str z ∧ Q (.bl (!decide (c ∈ z.cps.toList))) H) (tVar 5) (tC (.str "0123456789")))) (by rfl) sc_law_is_unit.nd (pi_str (pv 4)) (blkOk_by (own := [("_law_sign", 5)]) (N := ["_law_value", "_law_words", "_law_counts", "_law_at", "_law_word", "_law_sign"]) (sc := defScope s_law_is_unit) (by decide +kernel)) (fun _ _ _ _ _ => by exact (pg_name (i := 5) sc_law_is_unit.nd rfl (by first | exact Or.inl rfl | exact Or.inr rfl))) (fun _ _ _ _ _ => by exact (pts_one (pt_cmpR op_notIn_sign (pv 5) pe_str rfl))) (fun _ _ _ _ _ => by exact (pv 5))) (pe_lstN pa_nil) (nomark _)) (pss_one (ps_ret pe_bl)) pss_nil)
      (pss_cons (ps_if (pt_cmpR (op_diff hu) (pe_callTy call_str_int rfl T.n_str (by decide +kernel) (pa_cons (pe_callTy call_int_str rfl T.n_int (by decide +kernel) (pa_cons (pv 4) pa_nil)) pa_nil)) (pv 4) (nomark _)) (pss_one (ps_ret pe_bl)) pss_nil)
      (pss_one (ps_if (PW.pt (pw_and (pt_cmpR (op_same hu) (pv 3) pe_int (nomark _)) (pw_and (pt_cmpR (op_same hu) (pe_ix ix_seq (pv 1) pe_int (fun _ _ => rfl)) pe_str (nomark _)) (pw_and1 (pt_cmpR (op_same hu) (pv 4) pe_str (nomark _)))))) (pss_one (ps_ret pe_bl)) pss_nil))))))
      (pss_one (ps_ret pe_bl)))))), ?_⟩
    obtain ⟨n, ty, ki, kb, ks⟩ := (kinds_str (K := K) (H := H) x).ex
    refine ⟨_, rfl, _, _, _, _, _, rfl, .ty "str", ty, kit_ty ks, _, rfl, ?_⟩
    obtain ⟨y, ts, sp⟩ := split_some x
    refine ⟨_, rfl, rfl, _, _, rfl, rfl, by decide +kernel, by rw [sizeLine_eq]; omega, fun q nq => ?_⟩
    rw [sp]
    have s1 := same_new (o := .lst ((y :: ts).map V.str)) nq
    refine fun d nd => ⟨upd_same, K6, rfl, by decide, _, _, rfl, ?_⟩
    have dq : q ≠ d := fun z => by rw [z, upd_same] at nd; cases nd
    have s3 : Same H (upd (upd (upd H q (.lst ((y :: ts).map V.str))) d (.dK [])) d (.dK (mergeK [] K6))) := fun b o e => by
      rw [upd_ne (ne_of_none (s1 _ _ e) nd), upd_ne (ne_of_none (s1 _ _ e) nd)]
      exact s1 _ _ e
    have hq : upd (upd (upd H q (.lst ((y :: ts).map V.str))) d (.dK [])) d (.dK (mergeK [] K6)) q = some (.lst ((y :: ts).map V.str)) := by
      rw [upd_ne dq, upd_ne dq]
      exact upd_same
    have hd : upd (upd (upd H q (.lst ((y :: ts).map V.str))) d (.dK [])) d (.dK (mergeK [] K6)) d = some (.dK K6) := upd_same
    generalize upd (upd (upd H q (.lst ((y :: ts).map V.str))) d (.dK [])) d (.dK (mergeK [] K6)) = H3 at s3 hq hd ⊢
    have k2 : ∀ H', Same H3 H' → Q (.bl (unitW y ts)) H' := fun H' sm => by
      have z : Q (.bl (unitL (Txt.split x " "))) H' := k H' (s3.trans sm)
      rw [sp] at z
      exact z
    clear k s1 nq nd
    refine ⟨_, rfl, d, rfl, .inl ⟨K6, .inl hd⟩, _, rfl, ix_sq (.inr (SqL.of hq)) (v := .str y) (atI_nat (j := 0) rfl) ⟨_, rfl, _, DGet.k (k := .inr y) hd, _, rfl, _, _, rfl, len_sq (.inr (SqL.of hq)), _, _, rfl, rfl, ?_⟩⟩
    have no : unitW y ts = false → ∀ H', Same H3 H' → Q (.bl false) H' := fun e H' sm => by
      have z := k2 H' sm
      rw [e] at z
      exact z
    cases hb : isWord y with
    | false =>
      rw [cnt_none hb]
      refine .inl ⟨rfl, _, rfl, ?_⟩
      have e : unitW y ts = false := by unfold unitW; rw [if_neg (by rw [hb]; decide)]
      have ne : (!decide ((V.int (-1)) = V.int ((((y :: ts).map V.str).length : Nat) - 1 : Int))) = true := by
        rw [List.length_map, List.length_cons, decide_eq_false (fun z => by have := V.int.inj z; omega)]
        rfl
      show if (!decide ((V.int (-1)) = V.int ((((y :: ts).map V.str).length : Nat) - 1 : Int))) = true then _ else _
      rw [if_pos ne]
      exact no e _ fun _ _ z => z
    | true =>
    rw [cnt_word hb]
    refine .inl ⟨rfl, _, rfl, ?_⟩
    have el : (((((y :: ts).map V.str).length : Nat) : Int) - 1) = (ts.length : Int) := by
      rw [List.length_map, List.length_cons]
      omega
    show if (!decide ((V.int (numOf y)) = V.int ((((y :: ts).map V.str).length : Nat) - 1 : Int))) = true then _ else _
    rw [el]
    by_cases hl : ¬ (ts.length : Int) = numOf y
    · rw [decide_eq_false (fun z => hl (V.int.inj z).symm), if_pos (by rfl)]
      exact no (by unfold unitW; rw [if_pos hb, if_neg (fun z => hl (of_decide_eq_true z))]) _ fun _ _ z => z
    · have hl := Decidable.not_not.mp hl
      rw [decide_eq_true (congrArg V.int hl.symm), if_neg (by decide)]
      have many : ts.length ≤ 2 := by have := numOf_le y; omega
      rw [unitW_good hb hl] at k2 no
      have short : ∀ t, t ∈ ts → t.length ≤ 50 := fun t ht => Nat.le_trans (split_short (x := x) (by rw [sp]; exact List.mem_cons_of_mem _ ht)) lx
      have soT : ∀ t, t ∈ ts → PyData.strOk t = true := fun t ht => split_strOk so (by rw [sp]; exact List.mem_cons_of_mem _ ht)
      clear sp
      refine ⟨_, rfl, _, rfl, q, _, rfl, SqL.of hq, fun p np => ⟨p, _, rfl, SqL.of upd_same, ?_⟩⟩
      have ec : cutV ((y :: ts).map V.str) (some 1) none = ts.map V.str := cut1 _ _
      rw [ec]
      have s4 := same_new (o := .lst (ts.map V.str)) np
      have hp : upd H3 p (.lst (ts.map V.str)) p = some (.lst (ts.map V.str)) := upd_same
      generalize upd H3 p (.lst (ts.map V.str)) = H4 at s4 hp ⊢
      refine for_it (walk_enum (xs := ts.map V.str)) (fun n σ' H' => ∃ a3 a4, σ' = [some (.str x), some (.ref q), some (.ref d), a3, a4, none] ∧ Same H4 H' ∧ ∀ j (hj : j < ts.length), j < n → goodW y j ts[j] = true) ⟨none, none, rfl, fun _ _ z => z, fun j _ h => absurd h (Nat.not_lt_zero _)⟩ (fun n σ' H' _ pv => by
        obtain ⟨_, _, _, sm, _⟩ := pv
        exact SqL.of (sm _ _ hp)) (fun n v σ' H' H2 hn pv yy => ?_) (fun σ' H' pv => ?_)
      · obtain ⟨a3, a4, rfl, sm, good⟩ := pv
        obtain ⟨Tq, x1, x2, rfl, nT, rfl, e1, e2⟩ := yy
        cases e1
        rw [List.length_map] at hn
        have e3 : (ts.map V.str)[n]? = some x2 := e2
        rw [List.getElem?_map, List.getElem?_eq_getElem hn] at e3
        cases e3
        have mem : ts[n] ∈ ts := List.getElem_mem hn
        have lt := short _ mem
        have so' := soT _ mem
        have sT := sm.trans (same_new (o := .tup [.int ((n : Nat) : Int), .str ts[n]]) nT)
        refine ⟨Tq, _, rfl, SqT.of upd_same, rfl, _, _, rfl, _, _, rfl, rfl, ?_⟩
        have fin : ∀ H', Same H4 H' → goodW y n ts[n] = true → ∀ j (hj : j < ts.length), j < n + 1 → goodW y j ts[j] = true := fun H' _ g j hj hn' => by
          rcases Nat.lt_or_ge j n with z | z
          · exact good j hj z
          · have e : j = n := by omega
            subst e
            exact g
        have bad : ∀ H', Same H4 H' → (goodW y n ts[n] = true → False) → Q (.bl false) H' := fun H' s' b => by
          refine no ?_ H' (s4.trans s')
          cases z : ts.zipIdx.all fun p => goodW y p.snd p.fst with
          | false => rfl
          | true => exact (b (zip_at hn z)).elim
        generalize upd H' Tq (.tup [.int ((n : Nat) : Int), .str ts[n]]) = H5 at sT ⊢
        generalize ts[n] = t at lt so' fin bad ⊢
        have hq5 : ∀ H', Same H5 H' → H' q = some (.lst ((y :: ts).map V.str)) := fun H' s' => s' _ _ (sT _ _ (s4 _ _ hq))
        refine ⟨_, rfl, .inl ⟨rfl, _, rfl, ?_⟩⟩
        refine ite2 (fun c => ?_) (fun c => ?_)
        · exact bad _ sT fun g => (good_facts g lt).1 (V.str.inj (of_decide_eq_true c))
        have ne : t ≠ "" := fun z => c (decide_eq_true (congrArg V.str z))
        refine ⟨_, rfl, _, _, rfl, ⟨by rw [sizeLine_eq]; omega, rfl⟩, _, _, rfl, rfl, _, rfl, ?_⟩
        refine ite2 (fun c => ?_) (fun c => ?_)
        · refine bad _ sT fun g => ?_
          have z := of_decide_eq_true c
          have := (good_facts g lt).2.1
          omega
        have l2 : t.length ≤ 2 := by
          rcases Nat.lt_or_ge 2 t.length with z | z
          · exact absurd (decide_eq_true (show (2 : Int) < ((t.length : Nat) : Int) by omega)) c
          · exact z
        refine signs_ok (t := t) rfl (by show 5 < 6; decide) (by omega) so' fun H6 s6 => ?_
        refine ite2 (fun c => ?_) (fun c => ?_)
        · refine bad _ (sT.trans s6) fun g => ?_
          have z := (good_facts g lt).2.2.1
          have z' : figs t = true := z
          rw [z'] at c
          cases c
        have hf : figs t = true := by
          cases z : figs t with
          | true => rfl
          | false => rw [z] at c; exact absurd rfl c
        obtain ⟨fi, f99⟩ := fig_int ne l2 hf
        refine ⟨_, rfl, t, _, rfl, fi, by omega, _, rfl, ?_, _, rfl, .inl ⟨rfl, _, rfl, ?_⟩⟩
        · refine Nat.lt_of_le_of_lt (Nat.log2_le_self _) ?_
          rw [Int.natAbs_natCast]
          omega
        refine ite2 (fun c => ?_) (fun c => ?_)
        · refine bad _ (sT.trans s6) fun g => ?_
          have z := (good_facts g lt).2.2.2.1
          have e : V.str (toString ((NumText.digitsVal t.cps.toList : Nat) : Int)) = V.str t := congrArg V.str z
          have c' : (!decide (V.str (toString ((NumText.digitsVal t.cps.toList : Nat) : Int)) = V.str t)) = true := c
          rw [decide_eq_true e] at c'
          cases c'
        have eb : (toString ((NumText.digitsVal t.cps.toList : Nat) : Int) : Str) = t := by
          by_cases z : (toString ((NumText.digitsVal t.cps.toList : Nat) : Int) : Str) = t
          · exact z
          · refine absurd ?_ c
            show (!decide (V.str (toString ((NumText.digitsVal t.cps.toList : Nat) : Int)) = V.str t)) = true
            rw [decide_eq_false (fun w => z (V.str.inj w))]
            rfl
        have okay : ¬ (y = "cell" ∧ n = 0 ∧ t = "0") → goodW y n t = true := fun z => fig_good ne l2 hf eb z
        refine ⟨_, rfl, .inl ⟨rfl, _, rfl, ?_⟩⟩
        refine ite2 (fun c0 => ?_) (fun c0 => ?_)
        · have n0 : n = 0 := by have := V.int.inj (of_decide_eq_true c0); omega
          refine ⟨_, rfl, ix_sq (.inr (SqL.of (hq5 _ s6))) (v := .str y) (atI_nat (j := 0) rfl) (.inl ⟨rfl, _, rfl, ?_⟩)⟩
          refine ite2 (fun c1 => ?_) (fun c1 => ?_)
          · have yc : y = "cell" := V.str.inj (of_decide_eq_true c1)
            refine ⟨_, rfl, .inl ⟨rfl, _, rfl, ?_⟩⟩
            refine ite2 (fun c2 => ?_) (fun c2 => ?_)
            · exact bad _ (sT.trans s6) fun g => (good_facts g lt).2.2.2.2 ⟨yc, n0, V.str.inj (of_decide_eq_true c2)⟩
            · exact ⟨_, _, rfl, sT.trans s6, fin _ (sT.trans s6) (okay fun z => c2 (decide_eq_true (congrArg V.str z.2.2)))⟩
          · exact ⟨_, _, rfl, sT.trans s6, fin _ (sT.trans s6) (okay fun z => c1 (decide_eq_true (congrArg V.str z.1)))⟩
        · exact ⟨_, _, rfl, sT.trans s6, fin _ (sT.trans s6) (okay fun z => c0 (decide_eq_true (by rw [z.2.1]; rfl)))⟩
      · obtain ⟨a3, a4, rfl, sm, good⟩ := pv
        rw [List.length_map] at good
        have z := k2 _ (s4.trans sm)
        rw [zip_all fun n hn => good n hn hn] at z
        exact z
end
end L2.K32
set_option Elab.async false
set_option linter.all false
set_option maxRecDepth 100000
set_option maxHeartbeats 4000000
/-! A text bent at one place. -/
namespace L2.K32
open PySem PySem.Spec PyProof.Rows L2.RV
/-- _law_bent(pen, text) -/
def spLBent : Sp := fun vs H Q _ => ∃ (p l : Addr) (ns : List Int) (a r : Int) (t : Str), vs = [.ref p, .str t] ∧ PenAt H p l ns a r ∧ a ≤ 90000 ∧ t.length ≤ 40 ∧ PyData.strOk t = true ∧
  ∀ H' a' r' x, Keep p H H' → PenAt H' p l ns a' r' → a' ≤ a + 3 → x.length ≤ 50 → PyData.strOk x = true → Q (.str x) H'
theorem strOk_iff {x : Str} : PyData.strOk x = true ↔ ∀ c, c ∈ TL.tl x → c < 0x110000 := by
  unfold PyData.strOk
  rw [← Array.all_toList, List.all_eq_true]
  exact ⟨fun h c hc => of_decide_eq_true (h c hc), fun h c hc => decide_eq_true (h c hc)⟩
theorem strOk_app {x y : Str} (a : PyData.strOk x = true) (b : PyData.strOk y = true) : PyData.strOk (x ++ y) = true := by
  rw [strOk_iff] at a b ⊢
  intro c hc
  rw [TL.tl_append] at hc
  rcases List.mem_append.mp hc with z | z
  · exact a c z
  · exact b c z
theorem strOk_cut {x : Str} (a : PyData.strOk x = true) (lo hi : Option Int) : PyData.strOk (cutS x lo hi) = true := by
  rw [strOk_iff] at a ⊢
  intro c hc
  have hc' : c ∈ (x.cps.toList.drop (HT.sIx x.length 0 lo)).take (HT.sIx x.length x.length hi - HT.sIx x.length 0 lo) := by
    have z : TL.tl (cutS x lo hi) = (x.cps.toList.drop (HT.sIx x.length 0 lo)).take (HT.sIx x.length x.length hi - HT.sIx x.length 0 lo) := by
      show ((x.cps.toList.drop _).take _).toArray.toList = _
      rw [List.toList_toArray]
    rw [← z]
    exact hc
  exact a c (List.mem_of_mem_drop (List.mem_of_mem_take hc'))
theorem len_app (x y : Str) : (x ++ y).length = x.length + y.length := by
  rw [TL.len_tl, TL.len_tl, TL.len_tl, TL.tl_append, List.length_append]
/-- the parts ahead of a place and from a place behind it on -/
theorem cut_two {x : Str} {k j : Nat} (h : k ≤ j) : (cutS x none (some (k : Int))).length + (cutS x (some (j : Int)) none).length ≤ x.length := by
  have e1 : (cutS x none (some (k : Int))).length = min (min k x.length) x.cps.toList.length := by
    show ((x.cps.toList.drop (HT.sIx x.length 0 none)).take (HT.sIx x.length x.length (some (k : Int)) - HT.sIx x.length 0 none)).toArray.size = _
    rw [List.size_toArray, HT.sIx_nat, HT.sIx_none, List.drop_zero, Nat.sub_zero, List.length_take]
  have e2 : (cutS x (some (j : Int)) none).length = min (x.length - min j x.length) (x.cps.toList.length - min j x.length) := by
    show ((x.cps.toList.drop (HT.sIx x.length 0 (some (j : Int)))).take (HT.sIx x.length x.length none - HT.sIx x.length 0 (some (j : Int)))).toArray.size = _
    rw [List.size_toArray, HT.sIx_nat, HT.sIx_none, List.length_take, List.length_drop]
  have ll : x.cps.toList.length = x.length := Array.length_toList
  rw [e1, e2, ll]
  omega
section
variable {P : Program} {w : World} {K : PySem.W.Frag} {mg : Str → Option Value} {base : Heap} {fd : FuncData}
theorem ok_law_bent (T : Top w K mg) (D_law_draw : Def P w K mg base "_law_draw" 1 ["_law_pen_here", "_law_many"] spDraw) (D_law_pick : Def P w K mg base "_law_pick" 2 ["_law_pen_here", "_law_some"] spPick) (F : Fn K "_law_bent" s_law_bent fd) : FnOk P w K mg base CX0 3 (He.ga K "_law_bent") fd ["_law_pen_here", "_law_text_here"] spLBent := by
  refine F.ok sc_law_bent (fun vs H Q E h => ?_) (fun cdv A outer s H vs Q E hr h => ?_)
  · obtain ⟨p, l, ns, a, r, t, rfl, _⟩ := h
    rfl
  · obtain ⟨p, l, ns, a, r, t, rfl, pa, ha, lt, so, k⟩ := h
    have hu := hr.units
    refine ⟨_, PSs.nox (pss_cons (ps_par (i := 3) (j := 4) (by rfl) sc_law_bent.nd rfl rfl (by decide) rfl rfl (pa_cons (pe_callD D_law_draw (hr.mono (by decide)) rfl (pa_cons (pv 0) (pa_cons (pe_op op_plus (pe_callB call_len rfl T.n_len (by decide +kernel) (pa_cons (pv 1) pa_nil)) pe_int) pa_nil))) (pa_cons (pe_callD D_law_draw (hr.mono (by decide)) rfl (pa_cons (pv 0) (pa_cons pe_int pa_nil))) pa_nil)) (by rfl))
      (pss_cons (ps_set (i := 2) sc_law_bent.nd rfl (by first | exact Or.inl rfl | exact Or.inr rfl) (pe_callD D_law_pick (hr.mono (by decide)) rfl (pa_cons (pv 0) (pa_cons (pe_lstN (pa_cons pe_str (pa_cons pe_str (pa_cons pe_str (pa_cons pe_str (pa_cons pe_str (pa_cons pe_str (pa_cons pe_str (pa_cons pe_str pa_nil))))))))) pa_nil))))
      (pss_one (ps_ret (pe_op op_plus (pe_op op_plus (pe_slice sl_str (pv 1) po_none (po_some (pv 3))) (pe_ifExp (pt_cmpR op_gt (pv 4) pe_int (nomark _)) (pv 2) pe_str)) (pe_slice sl_str (pv 1) (po_some (pe_op op_plus (pv 3) (pe_callTy call_int1 rfl T.n_int (by decide +kernel) (pa_cons (pe_cmpR op_lt (pv 4) pe_int (nomark _)) pa_nil)))) po_none)))))), ?_⟩
    refine ⟨_, rfl, _, rfl, _, _, rfl, ⟨by rw [sizeLine_eq]; omega, rfl⟩, .inl ⟨_, _, rfl, rfl, p, l, ns, a, r, _, rfl, pa, by omega, by omega, by omega, fun H1 a1 r1 d k1 p1 l1 d0 d1 => ?_⟩⟩
    refine ⟨_, rfl, p, l, ns, a1, r1, 3, rfl, p1, by omega, by decide, by decide, fun H2 a2 r2 e k2 p2 l2 e0 e1 => ⟨_, _, rfl, ?_⟩⟩
    refine set_of (pick_lst (xs := [.str " ", .str "0", .str "1", .str "x", .str "-", .str "s", .str "00", .str "
"]) rfl p2 (by omega) (by decide) (by decide) (fun R h => h) fun H3 a3 r3 v k3 p3 l3 m3 => ?_)
    have hv : ∃ s : Str, v = .str s ∧ s.length ≤ 2 ∧ PyData.strOk s = true := by
      simp only [List.mem_cons, List.not_mem_nil, or_false] at m3
      rcases m3 with rfl | rfl | rfl | rfl | rfl | rfl | rfl | rfl <;> exact ⟨_, rfl, by decide +kernel, by decide +kernel⟩
    obtain ⟨s, rfl, ls, sos⟩ := hv
    obtain ⟨n, rfl⟩ := Int.eq_ofNat_of_zero_le d0
    have kk := (k1.trans k2).trans k3
    have fin : ∀ (s' : Str) (j : Nat), s'.length ≤ 2 → PyData.strOk s' = true → n ≤ j → Q (.str ((cutS t none (some (n : Int)) ++ s') ++ cutS t (some (j : Int)) none)) H3 := fun s' j l' so' hj => by
      refine k _ _ _ _ kk p3 (by omega) ?_ (strOk_app (strOk_app (strOk_cut so _ _) so') (strOk_cut so _ _))
      rw [len_app, len_app]
      have := cut_two (x := t) hj
      omega
    have c1 : (cutS t none (some (n : Int))).length ≤ t.length := cut_le _ _ _
    have c2 : ∀ lo, (cutS t lo none).length ≤ t.length := fun lo => cut_le _ _ _
    have big : sizeLine = 16777216 := sizeLine_eq
    have e2 : ∃ j : Nat, n ≤ j ∧ (n : Int) + (if decide (e < 2) = true then 1 else 0) = (j : Int) := by
      by_cases z : decide (e < 2) = true
      · exact ⟨n + 1, by omega, by rw [if_pos z]; rfl⟩
      · exact ⟨n, Nat.le_refl _, by rw [if_neg z]; omega⟩
    obtain ⟨j, hj, ej⟩ := e2
    refine ⟨_, rfl, _, rfl, _, rfl, t, rfl, by omega, _, rfl, _, _, rfl, rfl, _, rfl, ?_⟩
    have zero : ("" : Str).length = 0 := rfl
    refine ite2 (fun c => ?_) (fun c => ?_)
    · refine ⟨_, rfl, .inr (.inr ⟨_, _, rfl, rfl, by omega, _, rfl, _, rfl, _, rfl, _, _, rfl, rfl, .inr ⟨_, rfl, .inl ⟨_, _, rfl, rfl, _, rfl, t, rfl, by omega, ?_⟩⟩⟩)⟩
      rw [ej]
      exact .inr (.inr ⟨_, _, rfl, rfl, by rw [len_app]; have := c2 (some (j : Int)); omega, fin s j ls sos hj⟩)
    · refine .inr (.inr ⟨_, _, rfl, rfl, by omega, _, rfl, _, rfl, _, rfl, _, _, rfl, rfl, .inr ⟨_, rfl, .inl ⟨_, _, rfl, rfl, _, rfl, t, rfl, by omega, ?_⟩⟩⟩)
      rw [ej]
      exact .inr (.inr ⟨_, _, rfl, rfl, by rw [len_app]; have := c2 (some (j : Int)); omega, fin "" j (by rw [zero]; omega) (by decide +kernel) hj⟩)
end
end L2.K32
set_option Elab.async false
set_option linter.all false
set_option maxRecDepth 100000
set_option maxHeartbeats 4000000
/-! What a question is answered, or refused with. -/
namespace L2.K32
open PySem PySem.Spec PyProof.Rows L2.RV
/-- what an error is told as -/
def HeardE (K : PySem.W.Frag) (Q : VK) : XK := fun cls d H' => ∃ dd, d = some dd ∧
  ((cls = .ref (ca K 3) ∧ ∃ v, ErrX H' dd [("value", v)] ∧ ∀ H2 t, Same H' H2 → H2 t = some (.tup [.str "count", v]) → Q (.ref t) H2) ∨
   (cls = .ref (ca K 2) ∧ ∃ (v : V) (p : Addr) (dt : PyData), ErrX H' dd [("value", v)] ∧ Rds K p H' v dt ∧ dt.showable = true ∧ dt.depth ≤ 60 ∧ dt.shown.length ≤ sizeLine ∧ ∀ H2 t, Same H' H2 → H2 t = some (.tup [.str "unit", .str dt.shown]) → Q (.ref t) H2))
/-- _law_heard(lambda: ..) -/
def THeard (K : PySem.W.Frag) : (XK → Hp → VK → Prop) → Hp → VK → Prop := fun tl H Q =>
  ∀ H0 R, Same H H0 → (∀ v H', (∀ r, H' r = none → Q (.ref r) (upd H' r (.lst [v]))) → R v H') → tl (HeardE K Q) H0 R
/-- what an error of a text is told as -/
def ReadE (K : PySem.W.Frag) (Q : VK) : XK := fun cls d H' => ∃ dd, d = some dd ∧ cls = .ref (ca K 4) ∧ ∃ a b, ErrX H' dd [("line", a), ("word", b)] ∧ ∀ H2 t, Same H' H2 → H2 t = some (.tup [.str "text", a, b]) → Q (.ref t) H2
/-- _law_read_heard(lambda: ..) -/
def TRead (K : PySem.W.Frag) : (XK → Hp → VK → Prop) → Hp → VK → Prop := fun tl H Q =>
  ∀ H0 R, Same H H0 → (∀ v H', (∀ r, H' r = none → Q (.ref r) (upd H' r (.lst [v]))) → R v H') → tl (ReadE K Q) H0 R
section
variable {X : Cx}
theorem takes_len {W : WX} {n : Nat} (tk : Takes X W) (hn : X.N.length = n) : Takes X fun cls d σ H => σ.length = n → W cls d σ H := fun e s' h => by
  obtain ⟨a, B, sI, pins, σ, H, cls, d, e1, I, e2, e3, e4, e5, e6, e7, q⟩ := h
  exact tk e s' ⟨a, B, sI, pins, σ, H, cls, d, e1, I, e2, e3, e4, e5, e6, e7, q (by rw [I.len, hn])⟩
theorem heard_gives (T : Top X.w X.K X.mg) (fU : PySem.W.findIn X.K (.ref (ca X.K 2)) "value" = some none) (fC : PySem.W.findIn X.K (.ref (ca X.K 3)) "value" = some none) (hgu : X.A.guards = some []) (hr : Room 1 X.A) {g : Addr} {cdg : Value} {q : Str} : LamX.GivesTo X ["_law_ask", "error", "_law_caught", "_law_found"] "_law_heard" (defScope s_law_heard) g cdg (defBody s_law_heard) "_law_ask" q (THeard X.K) := by
  intro f c' s H Q tl act hc h
  have hu := (hr.deeper (envOfC "_law_heard" (defScope s_law_heard) s.heap.objs.size g cdg)).units
  refine ⟨_, (pss_cons (ps_asg (pe_tup (pa_cons pe_non (pa_cons pe_non pa_nil))) (pg_tup rfl (pgs_cons (pg_name (i := 2) sc_law_heard.nd rfl (by first | exact Or.inl rfl | exact Or.inr rfl)) (pgs_cons (pg_name (i := 3) sc_law_heard.nd rfl (by first | exact Or.inl rfl | exact Or.inr rfl)) pgs_nil))))
      (pss_cons (ps_try_keep (X := (cxOf C8.CX0 X.prog X.w X.K X.mg X.base ["_law_ask", "error", "_law_caught", "_law_found"] "_law_heard" (defScope s_law_heard) g cdg X.A X.stack s H C8.E0).nox) (c := .ref (ca X.K 0)) (i := 1) (n := "error") (Wout := fun _ _ _ _ => False)
        (tb := fun W D σ H => ∃ Ech : XK, (∀ cls d σ' H', σ'.length = 4 → Ech cls d H' → W cls d σ' H') ∧ σ[0]? = some (some (.ref f)) ∧ H c' = some (LamX.CodeO c' q) ∧ tl Ech H fun v H1 => D.nx (σ.set 3 (some v)) H1)
        rfl rfl rfl sc_law_heard.nd rfl rfl ⟨rfl, by decide, .inl T.c_VaultError⟩ LamX.takes0 (fun W pn xe tk _ => ⟨fun pins s' σ H' D I h' => by
          obtain ⟨Ech, hW, h1, h2, h3⟩ := h'
          exact (pss_one (ps_set (i := 3) sc_law_heard.nd rfl (by first | exact Or.inl rfl | exact Or.inr rfl) (act (fun cls d σ H => σ.length = 4 → W cls d σ H) pn xe Ech _ _ (takes_len tk rfl) fun cls d σ' H' he hl => hW cls d σ' H' hl he))).run pins s' σ H' D I ⟨h1, h2, h3⟩⟩) (fun a oe cls d pn _ _ => (pss_one (ps_set (i := 2) sc_law_heard.nd rfl (by first | exact Or.inl rfl | exact Or.inr rfl) (pv 1)))))
      (pss_cons (ps_if (pt_cmpR op_isN (pv 2) pe_non (nomark _)) (pss_one (ps_ret (pe_lstN (pa_cons (pv 3) pa_nil)))) pss_nil)
      (pss_cons (ps_if (pt_val (pe_callB call_isK rfl T.n_isinstance (by decide +kernel) (pa_cons (pv 2) (pa_cons (pe_glob (v := .ref (ca X.K 3)) rfl T.c_BadCount rfl) pa_nil)))) (pss_one (ps_ret (pe_tup (pa_cons pe_str (pa_cons (pe_errK (pv 2)) pa_nil))))) pss_nil)
      (pss_one (ps_ret (pe_ifExp (pt_val (pe_callB call_isK rfl T.n_isinstance (by decide +kernel) (pa_cons (pv 2) (pa_cons (pe_glob (v := .ref (ca X.K 2)) rfl T.c_BadUnit rfl) pa_nil)))) (pe_tup (pa_cons pe_str (pa_cons (pe_callB (call_repr hgu hu) rfl T.n_repr (by decide +kernel) (pa_cons (pe_errK (pv 2)) pa_nil)) pa_nil))) (pe_tup (pa_cons pe_str (pa_cons pe_str pa_nil)))))))))), ?_⟩
  refine ⟨(by decide : (2 : Nat) ≤ sizeLine), fun t nt => ⟨t, _, rfl, SqT.of upd_same, rfl, _, _, rfl, _, _, rfl, rfl, ?_⟩⟩
  have s1 := same_new (o := .tup [.non, .non]) nt
  refine ⟨HeardE X.K Q, fun cls d σ' H' hl he => ?_, rfl, s1 _ _ hc, ?_⟩
  · obtain ⟨x0, x1, x2, x3, rfl⟩ : ∃ x0 x1 x2 x3, σ' = [x0, x1, x2, x3] := by
      match σ', hl with
      | [x0, x1, x2, x3], _ => exact ⟨x0, x1, x2, x3, rfl⟩
    obtain ⟨dd, rfl, he⟩ := he
    rcases he with ⟨rfl, v, ex, k⟩ | ⟨rfl, v, p, dt, ex, rd, sh, dp, ln, k⟩
    · refine ⟨true, T.exm 3 0 (by decide) (by decide), fun _ a na => ⟨_, rfl, fun na' => ?_⟩, fun z => nomatch z⟩
      have ek := ex.caught (C := ca X.K 3) na'
      refine ⟨_, rfl, rfl, _, rfl, ?_⟩
      refine ⟨_, rfl, a, ca X.K 3, _, _, .ref (ca X.K 3), true, rfl, ek, (T.ex 3 (by decide)).1, fun u r => by cases r; rfl, T.kin 3 3 (by decide) (by decide), _, rfl, ?_⟩
      refine ⟨_, rfl, a, ca X.K 3, _, v, rfl, ek, (T.ex 3 (by decide)).2, fC, rfl, (by decide : (2 : Nat) ≤ sizeLine), fun t2 nt2 => ?_⟩
      exact k _ t2 ((same_new na').trans (same_new nt2)) upd_same
    · refine ⟨true, T.exm 2 0 (by decide) (by decide), fun _ a na => ⟨_, rfl, fun na' => ?_⟩, fun z => nomatch z⟩
      have ek := ex.caught (C := ca X.K 2) na'
      refine ⟨_, rfl, rfl, _, rfl, ?_⟩
      refine ⟨_, rfl, a, ca X.K 2, _, _, .ref (ca X.K 3), false, rfl, ek, (T.ex 2 (by decide)).1, fun u r => by cases r; rfl, T.kin 2 3 (by decide) (by decide), _, rfl, ?_⟩
      refine ⟨_, rfl, a, ca X.K 2, _, _, .ref (ca X.K 2), true, rfl, ek, (T.ex 2 (by decide)).1, fun u r => by cases r; rfl, T.kin 2 2 (by decide) (by decide), _, rfl, ?_⟩
      refine ⟨_, rfl, a, ca X.K 2, _, v, rfl, ek, (T.ex 2 (by decide)).2, fU, rfl, p, v, dt, rfl, rd.same (same_new na'), sh, dp, ln, (by decide : (2 : Nat) ≤ sizeLine), fun t2 nt2 => ?_⟩
      exact k _ t2 ((same_new na').trans (same_new nt2)) upd_same
  · refine h _ _ s1 fun v H' k => ?_
    exact ⟨_, rfl, rfl, _, rfl, _, rfl, (by decide : (1 : Nat) ≤ sizeLine), fun r nr _ => k r nr⟩

theorem read_heard_gives (T : Top X.w X.K X.mg) (fL : PySem.W.findIn X.K (.ref (ca X.K 4)) "line" = some none) (fW : PySem.W.findIn X.K (.ref (ca X.K 4)) "word" = some none) (hgu : X.A.guards = some []) (hr : Room 1 X.A) {g : Addr} {cdg : Value} {q : Str} : LamX.GivesTo X ["_law_ask", "error", "_law_caught", "_law_found"] "_law_read_heard" (defScope s_law_read_heard) g cdg (defBody s_law_read_heard) "_law_ask" q (TRead X.K) := by
  intro f c' s H Q tl act hc h
  have hu := (hr.deeper (envOfC "_law_read_heard" (defScope s_law_read_heard) s.heap.objs.size g cdg)).units
  refine ⟨_, (pss_cons (ps_asg (pe_tup (pa_cons pe_non (pa_cons pe_non pa_nil))) (pg_tup rfl (pgs_cons (pg_name (i := 2) sc_law_read_heard.nd rfl (by first | exact Or.inl rfl | exact Or.inr rfl)) (pgs_cons (pg_name (i := 3) sc_law_read_heard.nd rfl (by first | exact Or.inl rfl | exact Or.inr rfl)) pgs_nil))))
      (pss_cons (ps_try_keep (X := (cxOf C8.CX0 X.prog X.w X.K X.mg X.base ["_law_ask", "error", "_law_caught", "_law_found"] "_law_read_heard" (defScope s_law_read_heard) g cdg X.A X.stack s H C8.E0).nox) (c := .ref (ca X.K 0)) (i := 1) (n := "error") (Wout := fun _ _ _ _ => False)
        (tb := fun W D σ H => ∃ Ech : XK, (∀ cls d σ' H', σ'.length = 4 → Ech cls d H' → W cls d σ' H') ∧ σ[0]? = some (some (.ref f)) ∧ H c' = some (LamX.CodeO c' q) ∧ tl Ech H fun v H1 => D.nx (σ.set 3 (some v)) H1)
        rfl rfl rfl sc_law_read_heard.nd rfl rfl ⟨rfl, by decide, .inl T.c_VaultError⟩ LamX.takes0 (fun W pn xe tk _ => ⟨fun pins s' σ H' D I h' => by
          obtain ⟨Ech, hW, h1, h2, h3⟩ := h'
          exact (pss_one (ps_set (i := 3) sc_law_read_heard.nd rfl (by first | exact Or.inl rfl | exact Or.inr rfl) (act (fun cls d σ H => σ.length = 4 → W cls d σ H) pn xe Ech _ _ (takes_len tk rfl) fun cls d σ' H' he hl => hW cls d σ' H' hl he))).run pins s' σ H' D I ⟨h1, h2, h3⟩⟩) (fun a oe cls d pn _ _ => (pss_one (ps_set (i := 2) sc_law_read_heard.nd rfl (by first | exact Or.inl rfl | exact Or.inr rfl) (pv 1)))))
      (pss_cons (ps_if (pt_cmpR op_isN (pv 2) pe_non (nomark _)) (pss_one (ps_ret (pe_lstN (pa_cons (pv 3) pa_nil)))) pss_nil)
      (pss_one (ps_ret (pe_ifExp (pt_val (pe_callB call_isK rfl T.n_isinstance (by decide +kernel) (pa_cons (pv 2) (pa_cons (pe_glob (v := .ref (ca X.K 4)) rfl T.c_BadText rfl) pa_nil)))) (pe_tup (pa_cons pe_str (pa_cons (pe_errK (pv 2)) (pa_cons (pe_errK (pv 2)) pa_nil)))) (pe_tup (pa_cons pe_str (pa_cons pe_int (pa_cons pe_int pa_nil)))))))))), ?_⟩
  refine ⟨(by decide : (2 : Nat) ≤ sizeLine), fun t nt => ⟨t, _, rfl, SqT.of upd_same, rfl, _, _, rfl, _, _, rfl, rfl, ?_⟩⟩
  have s1 := same_new (o := .tup [.non, .non]) nt
  refine ⟨ReadE X.K Q, fun cls d σ' H' hl he => ?_, rfl, s1 _ _ hc, ?_⟩
  · obtain ⟨x0, x1, x2, x3, rfl⟩ : ∃ x0 x1 x2 x3, σ' = [x0, x1, x2, x3] := by
      match σ', hl with
      | [x0, x1, x2, x3], _ => exact ⟨x0, x1, x2, x3, rfl⟩
    obtain ⟨dd, rfl, rfl, v1, v2, ex, k⟩ := he
    refine ⟨true, T.exm 4 0 (by decide) (by decide), fun _ a na => ⟨_, rfl, fun na' => ?_⟩, fun z => nomatch z⟩
    have ek := ex.caught (C := ca X.K 4) na'
    refine ⟨_, rfl, rfl, _, rfl, ?_⟩
    refine ⟨_, rfl, a, ca X.K 4, _, _, .ref (ca X.K 4), true, rfl, ek, (T.ex 4 (by decide)).1, fun u r => by cases r; rfl, T.kin 4 4 (by decide) (by decide), _, rfl, ?_⟩
    refine ⟨_, rfl, a, ca X.K 4, _, v1, rfl, ek, (T.ex 4 (by decide)).2, fL, rfl, _, rfl, a, ca X.K 4, _, v2, rfl, ek, (T.ex 4 (by decide)).2, fW, rfl, (by decide : (3 : Nat) ≤ sizeLine), fun t2 nt2 => ?_⟩
    exact k _ t2 ((same_new na').trans (same_new nt2)) upd_same
  · refine h _ _ s1 fun v H' k => ?_
    exact ⟨_, rfl, rfl, _, rfl, _, rfl, (by decide : (1 : Nat) ≤ sizeLine), fun r nr _ => k r nr⟩

end
end L2.K32
set_option Elab.async false
set_option linter.all false
set_option maxRecDepth 100000
set_option maxHeartbeats 4000000
/-! Which rows of words are texts of units, and what a bent one is refused at. No model here. -/
namespace L2.K32
open PySem PySem.Spec PyProof.Rows L2.RV
/-- the words of a unit -/
def segOf (x : Str) (ns : List Int) : List Str := x :: ns.map fun n => (toString n : Str)
theorem seg_len (x : Str) (ns : List Int) : (segOf x ns).length = 1 + ns.length := by
  unfold segOf
  rw [List.length_cons, List.length_map]
  omega
abbrev PU := Str × List Int
def txtP (u : PU) : Str := textOf u.1 u.2
def segP (u : PU) : List Str := segOf u.1 u.2
def rkP (u : PU) : Int := rankOf u.1 u.2
/-- the words of units -/
def restW (us : List PU) : List Str := us.flatMap fun u => "," :: segP u
def wordsOf : List PU → List Str
  | [] => ["-"]
  | u :: us => segP u ++ restW us
/-- each stands behind the one ahead -/
def Chain : Int → List PU → Prop
  | _, [] => True
  | r, u :: us => r < rkP u ∧ Chain (rkP u) us
theorem Chain.pair : ∀ {r : Int} {us : List PU}, Chain r us → (∀ u, u ∈ us → r < rkP u) ∧ us.Pairwise fun a b => rkP a < rkP b
  | _, [], _ => ⟨fun _ h => (by cases h), .nil⟩
  | r, u :: us, h => by
    obtain ⟨a, b⟩ := Chain.pair h.2
    refine ⟨fun v hv => ?_, List.pairwise_cons.mpr ⟨a, b⟩⟩
    rcases List.mem_cons.mp hv with rfl | m
    · exact h.1
    · exact Int.lt_trans h.1 (a v m)
theorem Chain.of : ∀ {r : Int} {us : List PU}, (∀ u, u ∈ us → r < rkP u) → (us.Pairwise fun a b => rkP a < rkP b) → Chain r us
  | _, [], _, _ => True.intro
  | r, u :: us, h, p => by
    obtain ⟨a, b⟩ := List.pairwise_cons.mp p
    exact ⟨h u List.mem_cons_self, Chain.of a b⟩
/-! ### what is taken -/
theorem nums_take {ws : List Str} {x : Str} {after : Int} (short : ∀ w, w ∈ ws → w.length ≤ 50) : ∀ {r i : Nat} {ns ns' : List Int}, numsR ws x after [] r i ns = .ok ns' → ((ns.length : Int) + r = numOf x) →
    ∃ more, ns' = ns ++ more ∧ more.length = r ∧ ws.drop i = (more.map fun n => (toString n : Str)) ++ ws.drop (i + r) ∧ (0 < r → after < rankOf x ns')
  | 0, i, ns, ns', h, _ => by
    cases h
    exact ⟨[], (List.append_nil _).symm, rfl, rfl, fun z => absurd z (by decide)⟩
  | r + 1, i, ns, ns', h, hl => by
    unfold numsR at h
    split at h
    · rename_i t ht
      split at h
      · rename_i c
        obtain ⟨c1, c2⟩ := Bool.and_eq_true_iff.mp c
        have hc := Bool.and_eq_true_iff.mp c2
        have lastN : numV x ns.length (.int (wholeNum t)) = true := by
          have z := hc.1
          unfold lastOk at z
          rw [List.getLast?_concat, List.length_append] at z
          have e : ns.length + [wholeNum t].length - 1 = ns.length := by show ns.length + 1 - 1 = ns.length; omega
          rw [e] at z
          exact z
        have lt := short t (List.mem_of_getElem? ht)
        have pl : Txt.startswith t "-" = false := num_plain c1 lt lastN
        obtain ⟨et, _⟩ := whole_small c1 pl (numV_int lastN).2.2
        obtain ⟨more, e1, e2, e3, e4⟩ := nums_take short h (by rw [List.length_append]; show ((ns.length + 1 : Nat) : Int) + r = _; omega)
        have li : i < ws.length := by
          rcases Nat.lt_or_ge i ws.length with z | z
          · exact z
          · rw [List.getElem?_eq_none z] at ht
            cases ht
        refine ⟨wholeNum t :: more, by rw [e1, List.append_assoc]; rfl, by rw [List.length_cons, e2], ?_, fun _ => ?_⟩
        · rw [List.drop_eq_getElem_cons li, e3]
          rw [List.getElem?_eq_getElem li] at ht
          cases ht
          rw [List.map_cons, ← et, List.cons_append, show i + 1 + r = i + (r + 1) by omega]
        · rcases Nat.eq_zero_or_pos r with z | z
          · subst z
            have e0 : more = [] := List.length_eq_zero_iff.mp e2
            rw [e1, e0, List.append_nil]
            have q := hc.2
            rw [if_neg (by rw [List.length_append]; show ¬ ((ns.length + 1 : Nat) : Int) < numOf x; omega)] at q
            exact of_decide_eq_true (Bool.and_eq_true_iff.mp q).1
          · exact e4 z
      · cases h
    · cases h
theorem take_drop {ws : List Str} {r : Int} {i : Nat} {x : Str} {ns : List Int} (short : ∀ w, w ∈ ws → w.length ≤ 50) (h : takeR ws r [] i = .ok (x, ns)) :
    Parts x ns ∧ r < rankOf x ns ∧ ws.drop i = segOf x ns ++ ws.drop (i + 1 + ns.length) := by
  refine ⟨take_parts h, ?_⟩
  unfold takeR at h
  split at h
  · split at h
    · rename_i y hy c
      split at h
      · rename_i ns' hn
        cases h
        have nb := numOf_le x
        obtain ⟨more, e1, e2, e3, e4⟩ := nums_take short hn (by show ((0 : Nat) : Int) + ((numOf x).toNat : Nat) = _; omega)
        have e1' : ns = more := e1
        subst e1'
        have li : i < ws.length := by
          rcases Nat.lt_or_ge i ws.length with z | z
          · exact z
          · rw [List.getElem?_eq_none z] at hy
            cases hy
        refine ⟨?_, ?_⟩
        · rcases Nat.eq_zero_or_pos (numOf x).toNat with z | z
          · have e0 : ns = [] := List.length_eq_zero_iff.mp (by rw [e2, z])
            subst e0
            have ok := (Bool.and_eq_true_iff.mp c).2
            unfold okWord at ok
            rw [decide_eq_false (by omega), Bool.false_or] at ok
            have q := (Bool.and_eq_true_iff.mp ok).2
            rw [if_neg (by show ¬ ((0 : Nat) : Int) < numOf x; omega)] at q
            exact of_decide_eq_true (Bool.and_eq_true_iff.mp q).1
          · exact e4 z
        · rw [List.drop_eq_getElem_cons li, e3, e2]
          rw [List.getElem?_eq_getElem li] at hy
          cases hy
          rfl
      · cases h
    · cases h
  · cases h
theorem drop_get {ws a b : List Str} {i : Nat} (e : ws.drop i = a ++ b) {k : Nat} (h : k < a.length) : ws[i + k]? = a[k]? := by
  have z : (ws.drop i)[k]? = ws[i + k]? := List.getElem?_drop
  rw [← z, e, List.getElem?_append_left h]
/-- further units -/
theorem loop_rest {ws : List Str} (short : ∀ w, w ∈ ws → w.length ≤ 50) : ∀ {f i : Nat} {r : Int} {acc L : List Str} {j : Nat}, loopR ws [] f i r acc = .ok (L, j) → ws.length ≤ f + i → ws.length ≤ j →
    ∃ us : List PU, L = acc ++ us.map txtP ∧ (∀ u, u ∈ us → Parts u.1 u.2) ∧ Chain r us ∧ ws.drop i = restW us
  | 0, i, r, acc, L, j, h, hl, hj => by
    have hi : ws.length ≤ i := by omega
    have n : ws[i]? ≠ some ("," : Str) := by rw [List.getElem?_eq_none hi]; intro z; cases z
    rw [loop_stop n] at h
    cases h
    exact ⟨[], by rw [List.map_nil, List.append_nil], fun _ m => (by cases m), True.intro, by rw [List.drop_eq_nil_of_le hi]; rfl⟩
  | f + 1, i, r, acc, L, j, h, hl, hj => by
    by_cases c : ws[i]? = some ("," : Str)
    · rw [loop_go c] at h
      cases ht : takeR ws r [] (i + 1) with
      | error e => rw [ht] at h; cases h
      | ok xn =>
        obtain ⟨x, ns⟩ := xn
        rw [ht] at h
        obtain ⟨pa, lt, dr⟩ := take_drop short ht
        have h' : loopR ws [] f (i + 1 + 1 + ns.length) (rankOf x ns) (acc ++ [textOf x ns]) = .ok (L, j) := h
        obtain ⟨us, e1, e2, e3, e4⟩ := loop_rest short h' (by omega) hj
        have li : i < ws.length := by
          rcases Nat.lt_or_ge i ws.length with z | z
          · exact z
          · rw [List.getElem?_eq_none z] at c
            cases c
        refine ⟨(x, ns) :: us, by rw [e1, List.append_assoc]; rfl, fun u m => ?_, ⟨lt, e3⟩, ?_⟩
        · rcases List.mem_cons.mp m with rfl | m
          · exact pa
          · exact e2 u m
        · rw [List.drop_eq_getElem_cons li, dr, e4]
          rw [List.getElem?_eq_getElem li] at c
          rw [Option.some.inj c]
          rfl
    · rw [loop_stop c] at h
      cases h
      have hi : ws.length ≤ i := hj
      exact ⟨[], by rw [List.map_nil, List.append_nil], fun _ m => (by cases m), True.intro, by rw [List.drop_eq_nil_of_le hi]; rfl⟩
/-- what is read -/
theorem read_ok {ws L : List Str} (short : ∀ w, w ∈ ws → w.length ≤ 50) (h : readR ws = .ok L) : ∃ us : List PU, L = us.map txtP ∧ (∀ u, u ∈ us → Parts u.1 u.2) ∧ Chain (-1) us ∧ ws = wordsOf us := by
  unfold readR unitsR at h
  by_cases c : ws[0]? = some ("-" : Str)
  · rw [if_pos c] at h
    have h' : (if 0 + 1 < ws.length then Except.error (0 + 1) else Except.ok ([] : List Str)) = .ok L := h
    by_cases l : 0 + 1 < ws.length
    · rw [if_pos l] at h'
      cases h'
    · rw [if_neg l] at h'
      cases h'
      refine ⟨[], rfl, fun _ m => (by cases m), True.intro, ?_⟩
      match ws, c, l with
      | [w], c, _ => cases c; rfl
      | _ :: _ :: r, _, l => exact absurd (show 0 + 1 < (r.length + 1 + 1) by omega) l
  · rw [if_neg c] at h
    unfold someR at h
    cases ht : takeR ws (-1) [] 0 with
    | error e => rw [ht] at h; cases h
    | ok xn =>
      obtain ⟨x, ns⟩ := xn
      rw [ht] at h
      obtain ⟨pa, lt, dr⟩ := take_drop short ht
      have h' : (match loopR ws [] ws.length (0 + 1 + ns.length) (rankOf x ns) [textOf x ns] with
        | .error j => Except.error j
        | .ok (L, j) => if j < ws.length then .error j else .ok L) = .ok L := h
      cases hq : loopR ws [] ws.length (0 + 1 + ns.length) (rankOf x ns) [textOf x ns] with
      | error e => rw [hq] at h'; cases h'
      | ok Lj =>
        obtain ⟨L', j⟩ := Lj
        rw [hq] at h'
        have h2 : (if j < ws.length then Except.error j else Except.ok L') = .ok L := h'
        by_cases l : j < ws.length
        · rw [if_pos l] at h2
          cases h2
        · rw [if_neg l] at h2
          cases h2
          obtain ⟨us, e1, e2, e3, e4⟩ := loop_rest short hq (by omega) (by omega)
          refine ⟨(x, ns) :: us, e1, fun u m => ?_, ⟨lt, e3⟩, ?_⟩
          · rcases List.mem_cons.mp m with rfl | m
            · exact pa
            · exact e2 u m
          · have z : ws = segOf x ns ++ ws.drop (0 + 1 + ns.length) := dr
            rw [e4] at z
            exact z
/-! ### the converse -/
theorem can_num {x : Str} {ns : List Int} {j : Nat} {n : Int} {after : Int} (g : numV x ns.length (.int n) = true) (lt : ((ns ++ [n]).length : Int) < numOf x ∨ after < rankOf x (ns ++ [n])) : canStand x (ns ++ [n]) after [] = true := by
  unfold canStand lastOk
  rw [List.getLast?_concat]
  have e : (ns ++ [n]).length - 1 = ns.length := by rw [List.length_append]; show ns.length + 1 - 1 = ns.length; omega
  show (numV x ((ns ++ [n]).length - 1) (.int n) && _) = true
  rw [e, g, Bool.true_and]
  split
  · rfl
  · rename_i c
    rcases lt with z | z
    · exact absurd z c
    · rw [decide_eq_true z]
      rfl
theorem nums_of {ws : List Str} {x : Str} {after : Int} : ∀ {more ns : List Int} {i : Nat} {b : List Str}, ws.drop i = (more.map fun n => (toString n : Str)) ++ b → Parts x (ns ++ more) → after < rankOf x (ns ++ more) →
    numsR ws x after [] more.length i ns = .ok (ns ++ more)
  | [], ns, i, b, _, _, _ => by
    show Except.ok ns = _
    rw [List.append_nil]
  | n :: more, ns, i, b, e, p, lt => by
    have g0 : ws[i]? = some (toString n : Str) := by
      have z := drop_get e (k := 0) (by rw [List.length_map, List.length_cons]; omega)
      exact z
    have en : ns ++ n :: more = (ns ++ [n]) ++ more := by rw [List.append_assoc]; rfl
    have gn : numV x ns.length (.int n) = true := p.each ns.length n (by rw [List.getElem?_append_right (Nat.le_refl _), Nat.sub_self]; rfl)
    have rng := p.rng n (List.mem_append_right _ List.mem_cons_self)
    obtain ⟨w1, w2, _⟩ := num_text rng.1 rng.2
    have ok : canStand x (ns ++ [n]) after [] = true := by
      refine can_num (j := 0) gn ?_
      cases more with
      | nil => exact .inr lt
      | cons m more =>
        refine .inl ?_
        have := p.many
        rw [List.length_append, List.length_cons, List.length_cons] at this
        rw [List.length_append]
        show ((ns.length + 1 : Nat) : Int) < numOf x
        omega
    show (match ws[i]? with
      | some t => if (wholeText t && canStand x (ns ++ [wholeNum t]) after []) = true then numsR ws x after [] more.length (i + 1) (ns ++ [wholeNum t]) else .error i
      | none => .error i) = _
    rw [g0]
    show (if (wholeText (toString n) && canStand x (ns ++ [wholeNum (toString n)]) after []) = true then numsR ws x after [] more.length (i + 1) (ns ++ [wholeNum (toString n)]) else .error i) = _
    rw [w1, w2, ok, Bool.true_and, if_pos rfl, en]
    have e' : ws.drop (i + 1) = (more.map fun n => (toString n : Str)) ++ b := by
      have z := congrArg (List.drop 1) e
      rw [List.drop_drop] at z
      exact z
    exact nums_of e' (by rw [← en]; exact p) (by rw [← en]; exact lt)
theorem take_of {ws : List Str} {r : Int} {i : Nat} {x : Str} {ns : List Int} {b : List Str} (p : Parts x ns) (lt : r < rankOf x ns) (e : ws.drop i = segOf x ns ++ b) : takeR ws r [] i = .ok (x, ns) := by
  have g0 : ws[i]? = some x := drop_get e (k := 0) (by rw [seg_len]; omega)
  have e1 : ws.drop (i + 1) = (ns.map fun n => (toString n : Str)) ++ b := by
    have z := congrArg (List.drop 1) e
    rw [List.drop_drop] at z
    exact z
  have nb := numOf_le x
  have hm := p.many
  have okw : okWord r [] x = true := by
    unfold okWord
    by_cases z : 0 < numOf x
    · rw [decide_eq_true z]
      rfl
    · have e0 : ns = [] := List.length_eq_zero_iff.mp (by omega)
      subst e0
      rw [decide_eq_false z, Bool.false_or]
      unfold canStand lastOk
      show (true && (if ((0 : Nat) : Int) < numOf x then true else decide (r < rankOf x []) && true)) = true
      rw [if_neg (by omega), decide_eq_true lt]
      rfl
  have hn := nums_of (after := r) (ns := []) e1 (by rw [List.nil_append]; exact p) (by rw [List.nil_append]; exact lt)
  have el : (numOf x).toNat = ns.length := by omega
  unfold takeR
  rw [g0]
  show (if (isWord x && okWord r [] x) = true then _ else _) = _
  rw [p.word, okw, el]
  show (match numsR ws x r [] ns.length (i + 1) [] with | .ok ns => Except.ok (x, ns) | .error j => .error j) = _
  rw [hn]
  rfl
theorem loop_of {ws : List Str} : ∀ {us : List PU} {f i : Nat} {r : Int} {acc : List Str}, ws.drop i = restW us → (∀ u, u ∈ us → Parts u.1 u.2) → Chain r us → ws.length ≤ f + i → i ≤ ws.length → loopR ws [] f i r acc = .ok (acc ++ us.map txtP, ws.length)
  | [], f, i, r, acc, e, _, _, _, hi => by
    have z : ws.length ≤ i := List.drop_eq_nil_iff.mp e
    have ei : i = ws.length := by omega
    subst ei
    rw [loop_stop (by rw [List.getElem?_eq_none (Nat.le_refl _)]; intro z; cases z), List.map_nil, List.append_nil]
  | u :: us, f, i, r, acc, e, p, ch, hf, hi => by
    have e' : ws.drop i = (("," : Str) :: segP u) ++ restW us := e
    have len : (ws.drop i).length = ws.length - i := List.length_drop
    have li : i < ws.length := by
      rw [e', List.length_append, List.length_cons] at len
      omega
    have g0 : ws[i]? = some ("," : Str) := drop_get e' (k := 0) (by rw [List.length_cons]; omega)
    obtain ⟨f', rfl⟩ : ∃ f', f = f' + 1 := ⟨f - 1, by omega⟩
    have e1 : ws.drop (i + 1) = segP u ++ restW us := by
      have z := congrArg (List.drop 1) e'
      rw [List.drop_drop] at z
      exact z
    have tk := take_of (p u List.mem_cons_self) ch.1 e1
    rw [loop_go g0, tk]
    have e2 : ws.drop (i + 1 + 1 + u.2.length) = restW us := by
      have z := congrArg (List.drop (segP u).length) e1
      rw [List.drop_drop, List.drop_append_of_le_length (Nat.le_refl _), List.drop_length, List.nil_append] at z
      have sl : (segP u).length = 1 + u.2.length := seg_len _ _
      rw [sl, show i + 1 + (1 + u.2.length) = i + 1 + 1 + u.2.length by omega] at z
      exact z
    have l2 : i + 1 + 1 + u.2.length ≤ ws.length := by
      have sl : (segP u).length = 1 + u.2.length := seg_len _ _
      rw [e', List.length_append, List.length_cons, sl] at len
      omega
    show loopR ws [] f' (i + 1 + 1 + u.2.length) (rkP u) (acc ++ [txtP u]) = _
    rw [loop_of e2 (fun v m => p v (List.mem_cons_of_mem _ m)) ch.2 (by omega) l2, List.append_assoc]
    rfl
theorem word_dash {x : Str} (h : isWord x = true) : x ≠ "-" := fun z => by
  subst z
  exact absurd h (by decide +kernel)
theorem read_of {us : List PU} (p : ∀ u, u ∈ us → Parts u.1 u.2) (ch : Chain (-1) us) : readR (wordsOf us) = .ok (us.map txtP) := by
  cases us with
  | nil => rfl
  | cons u us =>
    have e : (wordsOf (u :: us)).drop 0 = segP u ++ restW us := rfl
    have tk := take_of (p u List.mem_cons_self) ch.1 e
    have w0 : (wordsOf (u :: us))[0]? = some u.1 := rfl
    have sl : (segP u).length = 1 + u.2.length := seg_len _ _
    have len : (wordsOf (u :: us)).length = (1 + u.2.length) + (restW us).length := by
      show (segP u ++ restW us).length = _
      rw [List.length_append, sl]
    have e2 : (wordsOf (u :: us)).drop (0 + 1 + u.2.length) = restW us := by
      have z := congrArg (List.drop (segP u).length) e
      rw [List.drop_drop, List.drop_append_of_le_length (Nat.le_refl _), List.drop_length, List.nil_append, sl] at z
      rw [← z]
      congr 1
      omega
    have lp := loop_of (f := (wordsOf (u :: us)).length) (acc := [txtP u]) e2 (fun v m => p v (List.mem_cons_of_mem _ m)) ch.2 (by omega) (by omega)
    unfold readR unitsR
    rw [w0, if_neg (fun z => word_dash (p u List.mem_cons_self).word (Option.some.inj z))]
    unfold someR
    rw [tk]
    show (match loopR (wordsOf (u :: us)) [] (wordsOf (u :: us)).length (0 + 1 + u.2.length) (rkP u) [txtP u] with
      | .error j => Except.error j
      | .ok (L, j) => if j < (wordsOf (u :: us)).length then .error j else .ok L) = _
    rw [lp]
    show (if (wordsOf (u :: us)).length < (wordsOf (u :: us)).length then _ else _) = _
    rw [if_neg (Nat.lt_irrefl _)]
    rfl
/-! ### the line -/
theorem joinL_app (S : List Nat) : ∀ {A B : List (List Nat)}, A ≠ [] → B ≠ [] → TL.joinL S (A ++ B) = TL.joinL S A ++ (S ++ TL.joinL S B)
  | [], _, h, _ => absurd rfl h
  | [a], b :: B, _, _ => rfl
  | [a], [], _, h => absurd rfl h
  | a :: c :: A, B, _, hB => by
    show a ++ (S ++ TL.joinL S ((c :: A) ++ B)) = (a ++ (S ++ TL.joinL S (c :: A))) ++ (S ++ TL.joinL S B)
    rw [joinL_app S (A := c :: A) (by intro z; cases z) hB]
    simp only [List.append_assoc]
theorem tl_text (u : PU) : TL.tl (txtP u) = TL.joinL (TL.tl " ") ((segP u).map TL.tl) := by
  show TL.tl (Txt.join " " (u.1 :: u.2.map fun n => (toString n : Str))) = _
  rw [TL.join_eq, TL.tl_join]
  rfl
theorem line_words : ∀ (u : PU) (us : List PU), TL.joinL (TL.tl " ") ((segP u ++ restW us).map TL.tl) = TL.joinL (TL.tl " , ") ((txtP u :: us.map txtP).map TL.tl)
  | u, [] => by
    show TL.joinL (TL.tl " ") ((segP u ++ []).map TL.tl) = TL.tl (txtP u)
    rw [List.append_nil, tl_text]
  | u, v :: us => by
    have ih := line_words v us
    have e : restW (v :: us) = [("," : Str)] ++ (segP v ++ restW us) := rfl
    rw [e, List.map_append, joinL_app _ (by intro z; cases z) (by intro z; cases z), List.map_append, joinL_app _ (A := ([","] : List Str).map TL.tl) (by intro z; cases z) (by intro z; cases z), ih, ← tl_text]
    show _ = TL.tl (txtP u) ++ (TL.tl " , " ++ TL.joinL (TL.tl " , ") ((v :: us).map txtP |>.map TL.tl))
    have e3 : TL.tl " , " = TL.tl " " ++ (TL.tl "," ++ TL.tl " ") := by decide +kernel
    conv => rhs; rw [e3]
    show TL.tl (txtP u) ++ (TL.tl " " ++ (TL.tl "," ++ (TL.tl " " ++ _))) = _
    simp only [List.append_assoc]
    rw [← e3]
    rfl
theorem line_of (us : List PU) : Txt.join " " (wordsOf us) = unitsLine (us.map txtP) := by
  cases us with
  | nil => rfl
  | cons u us =>
    unfold unitsLine
    rw [if_neg (by intro z; cases z)]
    refine TL.ext_tl ?_
    rw [TL.join_eq, TL.tl_join, TL.join_eq, TL.tl_join]
    exact line_words u us
theorem words_plain {us : List PU} (p : ∀ u, u ∈ us → Parts u.1 u.2) : ∀ w, w ∈ wordsOf us → (32 : Nat) ∉ TL.tl w ∧ w.length ≤ 7 := by
  have seg : ∀ u : PU, Parts u.1 u.2 → ∀ w, w ∈ segP u → (32 : Nat) ∉ TL.tl w ∧ w.length ≤ 7 := fun u pu w hw => by
    rcases List.mem_cons.mp hw with rfl | m
    · exact ⟨(word_text pu.word).2, (word_text pu.word).1⟩
    · obtain ⟨n, hn, rfl⟩ := List.mem_map.mp m
      have r := pu.rng n hn
      have := (small99 r.1 r.2).2
      exact ⟨(num_text r.1 r.2).2.2, by omega⟩
  have comma : (32 : Nat) ∉ TL.tl "," ∧ ("," : Str).length ≤ 7 := by decide +kernel
  cases us with
  | nil =>
    intro w hw
    rcases List.mem_singleton.mp hw with rfl
    decide +kernel
  | cons u us =>
    intro w hw
    rcases List.mem_append.mp hw with m | m
    · exact seg u (p u List.mem_cons_self) w m
    · obtain ⟨v, hv, m⟩ := List.mem_flatMap.mp m
      rcases List.mem_cons.mp m with rfl | m
      · exact comma
      · exact seg v (p v (List.mem_cons_of_mem _ hv)) w m
theorem words_ne (us : List PU) : wordsOf us ≠ [] := by
  cases us with
  | nil => intro z; cases z
  | cons u us => intro z; cases z
theorem split_words {ws : List Str} (ne : ws ≠ []) (p : ∀ w, w ∈ ws → (32 : Nat) ∉ TL.tl w) : Txt.split (Txt.join " " ws) " " = ws := TL.split_join (y := " ") (s := 32) (S := []) (by decide +kernel) (by decide +kernel) ne p
theorem split_line {us : List PU} (p : ∀ u, u ∈ us → Parts u.1 u.2) : Txt.split (unitsLine (us.map txtP)) " " = wordsOf us := by
  rw [← line_of]
  exact split_words (words_ne us) fun w hw => (words_plain p w hw).1
/-! ### the first word that cannot stand -/
def goR (ws : List Str) : Nat → Int → Nat → Option Nat
  | 0, _, i => some i
  | f + 1, last, i => match takeR ws last [] i with
    | .error j => some j
    | .ok (x, ns) => if ws.length ≤ i + 1 + ns.length then none else if ws[i + 1 + ns.length]? = some ("," : Str) then goR ws f (rankOf x ns) (i + 1 + ns.length + 1) else some (i + 1 + ns.length)
def wrongR (ws : List Str) : Option Nat := if ws[0]? = some ("-" : Str) then (if 1 < ws.length then some 1 else none) else goR ws (ws.length + 1) (-1) 0
def errOf {α : Type} : Except Nat α → Option Nat
  | .error j => some j
  | .ok _ => none
theorem loop_go' {ws : List Str} : ∀ {f i : Nat} {r : Int} {acc : List Str}, ws.length ≤ f + i →
    errOf (match loopR ws [] f i r acc with | .error j => Except.error j | .ok (L, j) => if j < ws.length then .error j else .ok L) = (if ws.length ≤ i then none else if ws[i]? = some ("," : Str) then goR ws f r (i + 1) else some i)
  | 0, i, r, acc, h => by
    have hi : ws.length ≤ i := by omega
    rw [loop_stop (by rw [List.getElem?_eq_none hi]; intro z; cases z), if_pos hi]
    show errOf (if i < ws.length then Except.error i else Except.ok acc) = none
    rw [if_neg (by omega)]
    rfl
  | f + 1, i, r, acc, h => by
    by_cases hi : ws.length ≤ i
    · rw [loop_stop (by rw [List.getElem?_eq_none hi]; intro z; cases z), if_pos hi]
      show errOf (if i < ws.length then Except.error i else Except.ok acc) = none
      rw [if_neg (by omega)]
      rfl
    · rw [if_neg hi]
      by_cases c : ws[i]? = some ("," : Str)
      · rw [if_pos c, loop_go c]
        show _ = (match takeR ws r [] (i + 1) with
          | .error j => some j
          | .ok (x, ns) => if ws.length ≤ i + 1 + 1 + ns.length then none else if ws[i + 1 + 1 + ns.length]? = some ("," : Str) then goR ws f (rankOf x ns) (i + 1 + 1 + ns.length + 1) else some (i + 1 + 1 + ns.length))
        cases ht : takeR ws r [] (i + 1) with
        | error e => rfl
        | ok xn =>
          obtain ⟨x, ns⟩ := xn
          exact loop_go' (f := f) (i := i + 1 + 1 + ns.length) (r := rankOf x ns) (acc := acc ++ [textOf x ns]) (by omega)
      · rw [if_neg c, loop_stop c]
        show errOf (if i < ws.length then Except.error i else Except.ok acc) = some i
        rw [if_pos (by omega)]
        rfl
theorem wrong_read {ws : List Str} (ne : ws ≠ []) : wrongR ws = errOf (readR ws) := by
  unfold wrongR readR unitsR
  by_cases c : ws[0]? = some ("-" : Str)
  · rw [if_pos c, if_pos c]
    show _ = errOf (if 0 + 1 < ws.length then Except.error (0 + 1) else Except.ok ([] : List Str))
    by_cases l : 1 < ws.length
    · rw [if_pos l, if_pos l]
      rfl
    · rw [if_neg l, if_neg l]
      rfl
  · rw [if_neg c, if_neg c]
    unfold someR
    show (match takeR ws (-1) [] 0 with
      | .error j => some j
      | .ok (x, ns) => if ws.length ≤ 0 + 1 + ns.length then none else if ws[0 + 1 + ns.length]? = some ("," : Str) then goR ws ws.length (rankOf x ns) (0 + 1 + ns.length + 1) else some (0 + 1 + ns.length)) = _
    cases ht : takeR ws (-1) [] 0 with
    | error e => rfl
    | ok xn =>
      obtain ⟨x, ns⟩ := xn
      exact (loop_go' (f := ws.length) (i := 0 + 1 + ns.length) (r := rankOf x ns) (acc := [textOf x ns]) (by omega)).symm
end L2.K32
set_option Elab.async false
set_option linter.all false
set_option maxRecDepth 100000
set_option maxHeartbeats 4000000
/-! The law's own reading of a row of words. -/
namespace L2.K32
open PySem PySem.Spec PyProof.Rows L2.RV
def lowOf (y : Str) (i : Nat) : Int := if y = "cell" ∧ i = 0 then 1 else 0
/-- _law_is_number(word, low) -/
def spLIsNum : Sp := fun vs H Q _ => ∃ (t y : Str) (i : Nat), vs = [.str t, .int (lowOf y i)] ∧ t.length ≤ 50 ∧ PyData.strOk t = true ∧ ∀ H', Same H H' → Q (.bl (goodW y i t)) H'
section
variable {P : Program} {w : World} {K : PySem.W.Frag} {mg : Str → Option Value} {base : Heap} {fd : FuncData}
theorem ok_law_is_number (T : Top w K mg) (F : Fn K "_law_is_number" s_law_is_number fd) : FnOk P w K mg base CX0 1 (He.ga K "_law_is_number") fd ["_law_word", "_law_low"] spLIsNum := by
  refine F.ok sc_law_is_number (fun vs H Q E h => ?_) (fun cdv A outer s H vs Q E hr h => ?_)
  · obtain ⟨t, y, i, rfl, _⟩ := h
    rfl
  · obtain ⟨t, y, i, rfl, lt, so, k⟩ := h
    have hu := hr.units
    refine ⟨_, PSs.nox (pss_cons (ps_if (PW.pt (pw_or (pt_not (pt_chain op_le op_le pe_int (pe_callB call_len rfl T.n_len (by decide +kernel) (pa_cons (pv 0) pa_nil)) pe_int )) (pw_or1 (pt_cmpR (op_diff hu) (pe_lc (own := [("_law_sign", 2)]) (g := gName 2) (te := tVar 2) (tt := tTest (tOp (fun x y H Q => ∃ (c : Nat) (z : Str), x = .str ⟨#[c]⟩ ∧ y = .str z ∧ Q (.bl (!decide (c ∈ z.cps.toList))) H) (tVar 2) (tC (.str "0123456789")))) (by rfl) sc_law_is_number.nd (pi_str (pv 0)) (blkOk_by (own := [("_law_sign", 2)]) (N := ["_law_word", "_law_low", "_law_sign"]) (sc := defScope s_law_is_number) (by decide +kernel)) (fun _ _ _ _ _ => by exact (pg_name (i := 2) sc_law_is_number.nd rfl (by first | exact Or.inl rfl | exact Or.inr rfl))) (fun _ _ _ _ _ => by exact (pts_one (pt_cmpR op_notIn_sign (pv 2) pe_str rfl))) (fun _ _ _ _ _ => by exact (pv 2))) (pe_lstN pa_nil) (nomark _))))) (pss_one (ps_ret pe_bl)) pss_nil)
      (pss_one (ps_ret (pe_and (pe_cmpR (op_same hu) (pe_callTy call_str_int rfl T.n_str (by decide +kernel) (pa_cons (pe_callTy call_int_str rfl T.n_int (by decide +kernel) (pa_cons (pv 0) pa_nil)) pa_nil)) (pv 0) (nomark _)) (pe_one (pe_cmpR op_ge (pe_callTy call_int_str rfl T.n_int (by decide +kernel) (pa_cons (pv 0) pa_nil)) (pv 1) (nomark _))))))), ?_⟩
    have bad : (goodW y i t = true → False) → ∀ H', Same H H' → Q (.bl false) H' := fun b H' sm => by
      have z := k H' sm
      cases g : goodW y i t with
      | false => rw [g] at z; exact z
      | true => exact (b g).elim
    refine ⟨_, rfl, _, _, rfl, ⟨by rw [sizeLine_eq]; omega, rfl⟩, _, _, rfl, rfl, _, rfl, ?_⟩
    refine ite2 (fun c1 => ?_) (fun c1 => ?_)
    rotate_left
    · have ne : t = "" := by
        have z : ¬ (1 : Int) ≤ (t.length : Nat) := fun q => c1 (decide_eq_true q)
        have z0 : t.cps.toList.length = t.length := Array.length_toList
        exact str_list (List.length_eq_zero_iff.mp (by omega))
      exact ⟨_, rfl, bad (fun g => (good_facts g lt).1 ne) _ fun _ _ z => z⟩
    have ne : t ≠ "" := fun z => by
      have q := of_decide_eq_true c1
      rw [z] at q
      exact absurd q (by decide)
    refine ⟨_, _, rfl, rfl, _, rfl, ?_⟩
    refine ite2 (fun c2 => ?_) (fun c2 => ?_)
    · refine bad (fun g => ?_) _ fun _ _ z => z
      have z := (good_facts g lt).2.1
      have c2' : (!decide (((t.length : Nat) : Int) ≤ 2)) = true := c2
      rw [decide_eq_true (show ((t.length : Nat) : Int) ≤ 2 by omega)] at c2'
      cases c2'
    have l2 : t.length ≤ 2 := by
      rcases Nat.lt_or_ge 2 t.length with z | z
      · refine absurd ?_ c2
        show (!decide (((t.length : Nat) : Int) ≤ 2)) = true
        rw [decide_eq_false (show ¬ ((t.length : Nat) : Int) ≤ 2 by omega)]
        rfl
      · exact z
    refine signs_ok (t := t) rfl (by show 2 < 3; decide) (by omega) so fun H1 s1 => ?_
    refine ite2 (fun c3 => ?_) (fun c3 => ?_)
    · refine bad (fun g => ?_) _ s1
      have z : figs t = true := (good_facts g lt).2.2.1
      rw [z] at c3
      cases c3
    have hf : figs t = true := by
      cases z : figs t with
      | true => rfl
      | false => rw [z] at c3; exact absurd rfl c3
    obtain ⟨fi, f99⟩ := fig_int ne l2 hf
    refine ⟨_, rfl, t, _, rfl, fi, by omega, _, rfl, ?_, _, rfl, .inl ⟨rfl, _, rfl, ?_⟩⟩
    · refine Nat.lt_of_le_of_lt (Nat.log2_le_self _) ?_
      rw [Int.natAbs_natCast]
      omega
    refine ite2 (fun c4 => ?_) (fun c4 => ?_)
    · have eb : (toString ((NumText.digitsVal t.cps.toList : Nat) : Int) : Str) = t := V.str.inj (of_decide_eq_true c4)
      refine ⟨_, rfl, t, _, rfl, fi, by omega, _, rfl, _, _, rfl, rfl, ?_⟩
      have e : goodW y i t = decide (lowOf y i ≤ ((NumText.digitsVal t.cps.toList : Nat) : Int)) := by
        cases g : goodW y i t with
        | true =>
          obtain ⟨n, n0, n99, en, hc⟩ := good_num g lt
          obtain ⟨m, rfl⟩ := Int.eq_ofNat_of_zero_le n0
          have back := (num_back ⟨m, by omega⟩).1
          have back' : NumText.digitsVal (toString ((m : Nat) : Int) : Str).cps.toList = m := back
          rw [en, back']
          refine (decide_eq_true ?_).symm
          unfold lowOf
          split
          · rename_i q
            exact hc q
          · omega
        | false =>
          refine (decide_eq_false fun z => ?_).symm
          have y1 : goodW y i t = true := fig_good ne l2 hf eb fun ⟨q1, q2, q3⟩ => by
            unfold lowOf at z
            rw [if_pos ⟨q1, q2⟩, q3] at z
            exact absurd z (by decide +kernel)
          rw [g] at y1
          cases y1
      have z := k _ s1
      rw [e] at z
      exact z
    · refine bad (fun g => ?_) _ s1
      refine c4 (decide_eq_true (congrArg V.str (good_facts g lt).2.2.2.1))
end
end L2.K32
set_option Elab.async false
set_option linter.all false
set_option maxRecDepth 100000
set_option maxHeartbeats 4000000
/-! The first word that cannot stand, by the law. -/
namespace L2.K32
open PySem PySem.Spec PyProof.Rows L2.RV
def wV : Option Nat → V
  | some j => .int j
  | none => .non
/-- a row of words, few and short -/
structure RowAt (H : Hp) (q : Addr) (ws : List Str) (n : Nat) : Prop where
  at_ : H q = some (.lst (ws.map V.str))
  ne : ws ≠ []
  few : ws.length ≤ n
  short : ∀ x, x ∈ ws → x.length ≤ 50
  ok : ∀ x, x ∈ ws → PyData.strOk x = true
/-- _law_wrong(words) -/
def spLWrong : Sp := fun vs H Q _ => ∃ (q : Addr) (ws : List Str), vs = [.ref q] ∧ RowAt H q ws 200 ∧ ∀ H', Same H H' → Q (wV (wrongR ws)) H'
theorem good_int {y : Str} {i : Nat} {t : Str} (g : goodW y i t = true) (l : t.length ≤ 50) : PySem.intText? t = some (wholeNum t) ∧ 0 ≤ wholeNum t ∧ wholeNum t ≤ 99 := by
  obtain ⟨a, b, c, _, _⟩ := good_facts g l
  obtain ⟨n, n0, n99, en, _⟩ := good_num g l
  have fi := (fig_int a b c).1
  obtain ⟨m, rfl⟩ := Int.eq_ofNat_of_zero_le n0
  have back : NumText.digitsVal (toString ((m : Nat) : Int) : Str).cps.toList = m := (num_back ⟨m, by omega⟩).1
  have w : wholeNum t = ((m : Nat) : Int) := by
    rw [en]
    exact (num_text n0 n99).2.1
  rw [w]
  refine ⟨?_, n0, n99⟩
  rw [fi, en, back]
def pr (ix : Int) (ns : List Int) : Int := ns.foldl (fun r n => r * 100 + n) ix
theorem pr_snoc (ix : Int) (ns : List Int) (n : Int) : pr ix (ns ++ [n]) = pr ix ns * 100 + n := by
  unfold pr
  rw [List.foldl_append]
  rfl
def mulOf : Nat → Int
  | 0 => 10000
  | 1 => 100
  | _ => 1
theorem mul_small2 (n : Nat) : -(2 ^ 64) < mulOf n ∧ mulOf n < 2 ^ 64 := by
  match n with
  | 0 => exact ⟨by decide, by decide⟩
  | 1 => exact ⟨by decide, by decide⟩
  | n + 2 =>
    show -(2 ^ 64) < (1 : Int) ∧ (1 : Int) < 2 ^ 64
    decide
theorem pr_rank {x : Str} {ns : List Int} (h : ns.length ≤ 2) : pr (wordIx x) ns * (mulOf ns.length) = rankOf x ns := by
  match ns, h with
  | [], _ =>
    show (wordIx x : Int) * 10000 = ((wordIx x : Int) * 100 + 0) * 100 + 0
    omega
  | [a], _ =>
    show ((wordIx x : Int) * 100 + a) * 100 = ((wordIx x : Int) * 100 + a) * 100 + 0
    omega
  | [a, b], _ =>
    show (((wordIx x : Int) * 100 + a) * 100 + b) * 1 = ((wordIx x : Int) * 100 + a) * 100 + b
    omega
theorem nums_none {ws : List Str} {x : Str} {last : Int} {r j : Nat} {ns : List Int} (h : ws[j]? = none) : numsR ws x last [] (r + 1) j ns = .error j := by
  show (match ws[j]? with | some t => _ | none => _) = _
  rw [h]
theorem can_split {x : Str} {ns : List Int} {t : Str} {last : Int} : (wholeText t && canStand x (ns ++ [wholeNum t]) last []) = (goodW x ns.length t && (if ((ns.length + 1 : Nat) : Int) < numOf x then true else decide (last < rankOf x (ns ++ [wholeNum t])))) := by
  unfold canStand lastOk goodW
  rw [List.getLast?_concat]
  have e : (ns ++ [wholeNum t]).length = ns.length + 1 := by rw [List.length_append]; rfl
  rw [e]
  show (wholeText t && (numB x ns.length t && (if ((ns.length + 1 : Nat) : Int) < numOf x then true else (decide (last < rankOf x (ns ++ [wholeNum t])) && true)))) = _
  rw [Bool.and_true, Bool.and_assoc]
theorem nums_bad {ws : List Str} {x : Str} {last : Int} {r j : Nat} {ns : List Int} {t : Str} (h : ws[j]? = some t) (g : goodW x ns.length t = false) : numsR ws x last [] (r + 1) j ns = .error j := by
  show (match ws[j]? with | some t => _ | none => _) = _
  rw [h]
  show (if (wholeText t && canStand x (ns ++ [wholeNum t]) last []) = true then _ else _) = _
  rw [can_split, g, Bool.false_and, if_neg (by decide)]
theorem nums_more {ws : List Str} {x : Str} {last : Int} {r j : Nat} {ns : List Int} {t : Str} (h : ws[j]? = some t) (g : goodW x ns.length t = true) (hr : ((ns.length + 1 : Nat) : Int) < numOf x) : numsR ws x last [] (r + 1) j ns = numsR ws x last [] r (j + 1) (ns ++ [wholeNum t]) := by
  show (match ws[j]? with | some t => _ | none => _) = _
  rw [h]
  show (if (wholeText t && canStand x (ns ++ [wholeNum t]) last []) = true then _ else _) = _
  rw [can_split, g, Bool.true_and, if_pos hr, if_pos rfl]
theorem nums_last {ws : List Str} {x : Str} {last : Int} {j : Nat} {ns : List Int} {t : Str} (h : ws[j]? = some t) (g : goodW x ns.length t = true) (hr : ¬ ((ns.length + 1 : Nat) : Int) < numOf x) : numsR ws x last [] 1 j ns = if last < rankOf x (ns ++ [wholeNum t]) then .ok (ns ++ [wholeNum t]) else .error j := by
  show (match ws[j]? with | some t => _ | none => _) = _
  rw [h]
  show (if (wholeText t && canStand x (ns ++ [wholeNum t]) last []) = true then numsR ws x last [] 0 (j + 1) (ns ++ [wholeNum t]) else _) = _
  rw [can_split, g, Bool.true_and, if_neg hr]
  by_cases c : last < rankOf x (ns ++ [wholeNum t])
  · rw [decide_eq_true c, if_pos rfl, if_pos c]
    rfl
  · rw [decide_eq_false c, if_neg (by decide), if_neg c]
theorem take_none {ws : List Str} {last : Int} {i : Nat} (h : ws[i]? = none) : takeR ws last [] i = .error i := by
  unfold takeR
  rw [h]
theorem take_odd {ws : List Str} {last : Int} {i : Nat} {x : Str} (h : ws[i]? = some x) (hw : isWord x = false) : takeR ws last [] i = .error i := by
  unfold takeR
  rw [h]
  show (if (isWord x && okWord last [] x) = true then _ else _) = _
  rw [hw, Bool.false_and, if_neg (by decide)]
/-- what a unit is taken as, k numbers being read -/
def At (ws : List Str) (last : Int) (i : Nat) (x : Str) (k : Nat) (ns : List Int) : Prop :=
  (k < (numOf x).toNat → takeR ws last [] i = match numsR ws x last [] ((numOf x).toNat - k) (i + 1 + k) ns with | .ok ns => .ok (x, ns) | .error j => .error j) ∧
  (k = (numOf x).toNat → takeR ws last [] i = if last < rankOf x ns then .ok (x, ns) else .error (i + (numOf x).toNat))
theorem at_zero {ws : List Str} {last : Int} {i : Nat} {x : Str} (h : ws[i]? = some x) (hw : isWord x = true) : At ws last i x 0 [] := by
  have nb := numOf_le x
  have e : takeR ws last [] i = if okWord last [] x = true then (match numsR ws x last [] (numOf x).toNat (i + 1) [] with | .ok ns => .ok (x, ns) | .error j => .error j) else .error i := by
    unfold takeR
    rw [h]
    show (if (isWord x && okWord last [] x) = true then _ else _) = _
    rw [hw, Bool.true_and] <;> rfl
  refine ⟨fun k => ?_, fun k => ?_⟩
  · have ok : okWord last [] x = true := by
      unfold okWord
      rw [decide_eq_true (by omega), Bool.true_or]
    rw [e, if_pos ok]
    rfl
  · have z : ¬ 0 < numOf x := by omega
    have ok : okWord last [] x = decide (last < rankOf x []) := by
      unfold okWord canStand lastOk
      rw [decide_eq_false z, Bool.false_or]
      show (true && (if ((0 : Nat) : Int) < numOf x then true else (decide (last < rankOf x []) && true))) = _
      rw [if_neg (by omega), Bool.true_and, Bool.and_true]
    rw [e, ok, ← k]
    by_cases c : last < rankOf x []
    · rw [decide_eq_true c, if_pos rfl, if_pos c]
      rfl
    · rw [decide_eq_false c, if_neg (by decide), if_neg c]
      rfl
theorem at_stop {ws : List Str} {last : Int} {i : Nat} {x : Str} {k : Nat} {ns : List Int} (a : At ws last i x k ns) (hk : k < (numOf x).toNat) (h : numsR ws x last [] ((numOf x).toNat - k - 1 + 1) (i + 1 + k) ns = .error (i + 1 + k)) : takeR ws last [] i = .error (i + 1 + k) := by
  have z := a.1 hk
  rw [show (numOf x).toNat - k = (numOf x).toNat - k - 1 + 1 by omega, h] at z
  exact z
theorem at_next {ws : List Str} {last : Int} {i : Nat} {x : Str} {k : Nat} {ns : List Int} {t : Str} (a : At ws last i x k ns) (hk : k < (numOf x).toNat) (hl : ns.length = k) (h : ws[i + 1 + k]? = some t) (g : goodW x ns.length t = true) : At ws last i x (k + 1) (ns ++ [wholeNum t]) := by
  have nb := numOf_le x
  have z := a.1 hk
  refine ⟨fun k' => ?_, fun k' => ?_⟩
  · rw [show (numOf x).toNat - k = ((numOf x).toNat - (k + 1)) + 1 by omega, nums_more h g (by omega)] at z
    exact z
  · rw [show (numOf x).toNat - k = 1 by omega, nums_last h g (by omega)] at z
    rw [z]
    by_cases c : last < rankOf x (ns ++ [wholeNum t])
    · rw [if_pos c, if_pos c]
    · rw [if_neg c, if_neg c]
      show Except.error (i + 1 + k) = _
      rw [show i + 1 + k = i + (numOf x).toNat by omega]
theorem nums_len {ws : List Str} {x : Str} {last : Int} : ∀ {r i : Nat} {ns ns' : List Int}, numsR ws x last [] r i ns = .ok ns' → 0 < r → i + r ≤ ws.length
  | 0, _, _, _, _, h => absurd h (by decide)
  | r + 1, i, ns, ns', h, _ => by
    unfold numsR at h
    split at h
    · rename_i t ht
      have li : i < ws.length := by
        rcases Nat.lt_or_ge i ws.length with z | z
        · exact z
        · rw [List.getElem?_eq_none z] at ht
          cases ht
      split at h
      · cases r with
        | zero => omega
        | succ r =>
          have := nums_len h (by omega)
          omega
      · cases h
    · cases h
theorem take_len {ws : List Str} {last : Int} {i : Nat} {x : Str} {ns : List Int} (h : takeR ws last [] i = .ok (x, ns)) : i + 1 + ns.length ≤ ws.length := by
  have pm := (take_parts h).many
  unfold takeR at h
  split at h
  · rename_i y hy
    have li : i < ws.length := by
      rcases Nat.lt_or_ge i ws.length with z | z
      · exact z
      · rw [List.getElem?_eq_none z] at hy
        cases hy
    split at h
    · split at h
      · rename_i ns' hn
        cases h
        rcases Nat.eq_zero_or_pos (numOf x).toNat with z | z
        · omega
        · have := nums_len hn z
          omega
      · cases h
    · cases h
  · cases h
theorem many_at {x : Str} (h : isWord x = true) : ([V.int 0, V.int 1, V.int 1, V.int 2, V.int 1, V.int 2] : List V)[wordIx x]? = some (V.int (numOf x)) := by
  rcases word6 h with rfl | rfl | rfl | rfl | rfl | rfl <;> decide +kernel
theorem cell_ix {x : Str} (h : isWord x = true) : (wordIx x : Int) = 3 ↔ x = "cell" := by
  constructor
  · intro z
    rcases word6 h with rfl | rfl | rfl | rfl | rfl | rfl
    all_goals first | rfl | exact absurd z (by decide +kernel)
  · rintro rfl
    decide +kernel
section
variable {P : Program} {w : World} {K : PySem.W.Frag} {mg : Str → Option Value} {base : Heap} {fd : FuncData}
theorem ok_law_wrong (T : Top w K mg) (D_law_is_number : Def P w K mg base "_law_is_number" 1 ["_law_word", "_law_low"] spLIsNum) (F : Fn K "_law_wrong" s_law_wrong fd) : FnOk P w K mg base CX0 2 (He.ga K "_law_wrong") fd ["_law_words"] spLWrong := by
  refine F.ok sc_law_wrong (fun vs H Q E h => ?_) (fun cdv A outer s H vs Q E hr h => ?_)
  · obtain ⟨q, ws, rfl, _⟩ := h
    rfl
  · obtain ⟨q, ws, rfl, row, k⟩ := h
    have hu := hr.units
    refine ⟨_, PSs.nox (pss_cons (ps_if (pt_cmpR (op_same hu) (pe_ix ix_seq (pv 0) pe_int (fun _ _ => rfl)) pe_str (nomark _)) (pss_one (ps_ret (pe_ifExp (pt_cmpR op_gt (pe_callB call_len rfl T.n_len (by decide +kernel) (pa_cons (pv 0) pa_nil)) pe_int (nomark _)) pe_int pe_non))) pss_nil)
      (pss_cons (ps_asg (pe_tup (pa_cons pe_int (pa_cons (pe_un un_neg pe_int) pa_nil))) (pg_tup rfl (pgs_cons (pg_name (i := 1) sc_law_wrong.nd rfl (by first | exact Or.inl rfl | exact Or.inr rfl)) (pgs_cons (pg_name (i := 2) sc_law_wrong.nd rfl (by first | exact Or.inl rfl | exact Or.inr rfl)) pgs_nil))))
      (pss_cons (ps_while PassesOwn.never (pt_cmpR op_le (pv 1) (pe_callB call_len rfl T.n_len (by decide +kernel) (pa_cons (pv 0) pa_nil)) (nomark _)) (pss_cons (ps_if (PW.pt (pw_or (pt_cmpR (op_same hu) (pv 1) (pe_callB call_len rfl T.n_len (by decide +kernel) (pa_cons (pv 0) pa_nil)) (nomark _)) (pw_or1 (pt_cmpR op_notIn_seq (pe_ix ix_seq (pv 0) (pv 1) (fun _ _ => rfl)) (pe_tup (pa_cons pe_str (pa_cons pe_str (pa_cons pe_str (pa_cons pe_str (pa_cons pe_str (pa_cons pe_str pa_nil))))))) rfl)))) (pss_one (ps_ret (pv 1))) pss_nil)
      (pss_cons (ps_set (i := 3) sc_law_wrong.nd rfl (by first | exact Or.inl rfl | exact Or.inr rfl) (pe_bm PySem.F.plainAttrs_list PySem.F.slot_list_index PySem.F.type_list_index mt_index (pe_lstN (pa_cons pe_str (pa_cons pe_str (pa_cons pe_str (pa_cons pe_str (pa_cons pe_str (pa_cons pe_str pa_nil))))))) (pa_cons (pe_ix ix_seq (pv 0) (pv 1) (fun _ _ => rfl)) pa_nil)))
      (pss_cons (ps_par (i := 6) (j := 5) (by rfl) sc_law_wrong.nd rfl rfl (by decide) rfl rfl (pa_cons (pe_ix ix_seq (pe_lstN (pa_cons pe_int (pa_cons pe_int (pa_cons pe_int (pa_cons pe_int (pa_cons pe_int (pa_cons pe_int pa_nil))))))) (pv 3) (fun _ _ => rfl)) (pa_cons (pv 3) pa_nil)) (by rfl))
      (pss_cons (ps_for PassesOwn.never rfl (pi_range1 rfl T.n_range (pa_cons (pv 6) pa_nil)) (pg_name (i := 4) sc_law_wrong.nd rfl (by first | exact Or.inl rfl | exact Or.inr rfl)) (pss_cons (ps_if (PW.pt (pw_or (pt_cmpR op_ge (pe_op op_plus (pe_op op_plus (pv 1) pe_int) (pv 4)) (pe_callB call_len rfl T.n_len (by decide +kernel) (pa_cons (pv 0) pa_nil)) (nomark _)) (pw_or1 (pt_not (pt_val (pe_callD D_law_is_number (hr.mono (by decide)) rfl (pa_cons (pe_ix ix_seq (pv 0) (pe_op op_plus (pe_op op_plus (pv 1) pe_int) (pv 4)) (fun _ _ => rfl)) (pa_cons (pe_callTy call_int1 rfl T.n_int (by decide +kernel) (pa_cons (pe_and (pe_cmpR (op_same hu) (pv 3) pe_int (nomark _)) (pe_one (pe_cmpR (op_same hu) (pv 4) pe_int (nomark _)))) pa_nil)) pa_nil)))))))) (pss_one (ps_ret (pe_op op_plus (pe_op op_plus (pv 1) pe_int) (pv 4)))) pss_nil)
      (pss_one (ps_set (i := 5) sc_law_wrong.nd rfl (by first | exact Or.inl rfl | exact Or.inr rfl) (pe_op op_plus (pe_op op_times (pv 5) pe_int) (pe_callTy call_int_str rfl T.n_int (by decide +kernel) (pa_cons (pe_ix ix_seq (pv 0) (pe_op op_plus (pe_op op_plus (pv 1) pe_int) (pv 4)) (fun _ _ => rfl)) pa_nil)))))))
      (pss_cons (ps_set (i := 5) sc_law_wrong.nd rfl (by first | exact Or.inl rfl | exact Or.inr rfl) (pe_op op_times (pv 5) (pe_ix ix_seq (pe_lstN (pa_cons pe_int (pa_cons pe_int (pa_cons pe_int pa_nil)))) (pv 6) (fun _ _ => rfl))))
      (pss_cons (ps_if (pt_cmpR op_le (pv 5) (pv 2) (nomark _)) (pss_one (ps_ret (pe_op op_plus (pv 1) (pv 6)))) pss_nil)
      (pss_cons (ps_par (i := 2) (j := 1) (by rfl) sc_law_wrong.nd rfl rfl (by decide) rfl rfl (pa_cons (pv 5) (pa_cons (pe_op op_plus (pe_op op_plus (pv 1) (pv 6)) pe_int) pa_nil)) (by rfl))
      (pss_cons (ps_if (pt_cmpR (op_same hu) (pv 1) (pe_callB call_len rfl T.n_len (by decide +kernel) (pa_cons (pv 0) pa_nil)) (nomark _)) (pss_one (ps_ret pe_non)) pss_nil)
      (pss_cons (ps_if (pt_cmpR (op_diff hu) (pe_ix ix_seq (pv 0) (pv 1) (fun _ _ => rfl)) pe_str (nomark _)) (pss_one (ps_ret (pv 1))) pss_nil)
      (pss_one (ps_set (i := 1) sc_law_wrong.nd rfl (by first | exact Or.inl rfl | exact Or.inr rfl) (pe_op op_plus (pv 1) pe_int)))))))))))))
      (pss_one (ps_ret (pv 1)))))), ?_⟩
    obtain ⟨w0, h0⟩ : ∃ w0, ws[0]? = some w0 := by
      cases ws with
      | nil => exact absurd rfl row.ne
      | cons a b => exact ⟨a, rfl⟩
    have ixw : ∀ (H' : Hp) {i : Nat} {x : Str} {QQ : VK}, Same H H' → ws[i]? = some x → QQ (.str x) H' → rIx K (.ref q) (.int i) H' QQ := fun H' {i x QQ} s' hx kk => ix_sq (.inr (SqL.of (s' _ _ row.at_))) (atI_nat (by rw [List.getElem?_map, hx]; rfl)) kk
    have lenw : ∀ (H' : Hp), Same H H' → LenV K (.ref q) H' ws.length := fun H' s' => by
      have z := len_sq (K := K) (H := H') (p := q) (xs := ws.map V.str) (.inr (SqL.of (s' _ _ row.at_)))
      rw [List.length_map] at z
      exact z
    have few := row.few
    have sH : Same H H := fun _ _ z => z
    refine ⟨_, rfl, ixw H (i := 0) sH h0 (.inl ⟨rfl, _, rfl, ?_⟩)⟩
    refine ite2 (fun c0 => ?_) (fun c0 => ?_)
    · have e0 : w0 = "-" := V.str.inj (of_decide_eq_true c0)
      have kw := k H sH
      unfold wrongR at kw
      rw [h0, e0, if_pos rfl] at kw
      refine ⟨_, rfl, _, _, rfl, lenw H sH, _, _, rfl, rfl, _, rfl, ?_⟩
      refine ite2 (fun c1 => ?_) (fun c1 => ?_)
      · have l : 1 < ws.length := by have z := of_decide_eq_true c1; omega
        rw [if_pos l] at kw
        exact kw
      · have l : ¬ 1 < ws.length := fun z => c1 (decide_eq_true (show (1 : Int) < ((ws.length : Nat) : Int) by omega))
        rw [if_neg l] at kw
        exact kw
    have kw : ∀ H', Same H H' → Q (wV (goR ws (ws.length + 1) (-1) 0)) H' := fun H' s' => by
      have z := k H' s'
      unfold wrongR at z
      rw [h0, if_neg (fun y => c0 (decide_eq_true (congrArg V.str (Option.some.inj y))))] at z
      exact z
    clear k c0
    generalize hg : goR ws (ws.length + 1) (-1) 0 = G at kw
    refine ⟨_, rfl, (by decide : (2 : Nat) ≤ sizeLine), fun t0 nt0 => ⟨t0, _, rfl, SqT.of upd_same, rfl, _, _, rfl, _, _, rfl, rfl, ?_⟩⟩
    have st0 := same_new (o := .tup [.int 0, .int (-1)]) nt0
    refine ⟨fun m σ' H' => ∃ (i f : Nat) (last : Int) (a3 a4 a5 a6 : Option V), m = ws.length + 1 - i ∧ σ' = [some (.ref q), some (.int i), some (.int last), a3, a4, a5, a6] ∧ Same H H' ∧ i ≤ ws.length ∧ ws.length + 1 ≤ f + i ∧ goR ws f last i = G,
      ⟨_, 0, ws.length + 1, -1, none, none, none, none, rfl, rfl, st0, by omega, by omega, hg⟩, ?_⟩
    rintro m σ' H' ⟨i, f, last, a3, a4, a5, a6, rfl, rfl, sm, hi, hf, hG⟩
    obtain ⟨f, rfl⟩ : ∃ f', f = f' + 1 := ⟨f - 1, by omega⟩
    refine ⟨_, rfl, _, rfl, _, _, rfl, lenw H' sm, _, _, rfl, rfl, _, rfl, ?_⟩
    refine ite2 (fun _ => ?_) (fun cw => absurd (decide_eq_true (show (i : Int) ≤ ((ws.length : Nat) : Int) by omega)) cw)
    refine ⟨fun σ2 H2 => ∃ (i2 f : Nat) (last : Int) (a3 a4 a5 a6 : Option V), i < i2 ∧ σ2 = [some (.ref q), some (.int i2), some (.int last), a3, a4, a5, a6] ∧ Same H H2 ∧ i2 ≤ ws.length ∧ ws.length + 1 ≤ f + i2 ∧ goR ws f last i2 = G,
      fun σ2 H2 ⟨i2, f, last, a3, a4, a5, a6, lt, e, rest⟩ => ⟨ws.length + 1 - i2, by have := rest.2.1; omega, i2, f, last, a3, a4, a5, a6, rfl, e, rest⟩, ?_⟩
    have goErr : ∀ j, takeR ws last [] i = .error j → G = some j := fun j z => by
      rw [← hG]
      show (match takeR ws last [] i with | .error j => some j | .ok (x, ns) => _) = _
      rw [z]
    have kwAt : ∀ (j : Nat) H'', Same H H'' → G = some j → Q (.int j) H'' := fun j H'' s' e => by
      have z := kw H'' s'
      rw [e] at z
      exact z
    refine ⟨_, rfl, _, rfl, _, _, rfl, lenw H' sm, .inl ⟨rfl, _, rfl, ?_⟩⟩
    refine ite2 (fun c1 => ?_) (fun c1 => ?_)
    · have e : i = ws.length := by have z := V.int.inj (of_decide_eq_true c1); omega
      have z := goErr _ (take_none (i := i) (List.getElem?_eq_none (by omega)))
      exact ⟨_, rfl, kwAt _ _ sm z⟩
    have li : i < ws.length := by
      rcases Nat.lt_or_ge i ws.length with z | z
      · exact z
      · exact absurd (decide_eq_true (congrArg V.int (show (i : Int) = ((ws.length : Nat) : Int) by omega))) c1
    have hx : ws[i]? = some ws[i] := List.getElem?_eq_getElem li
    generalize ws[i] = x at hx
    refine ⟨_, rfl, _, rfl, ixw H' (i := i) sm hx ⟨(by decide : (6 : Nat) ≤ sizeLine), fun t1 nt1 => ⟨t1, units6.map V.str, rfl, .inr (SqT.of upd_same), rfl, rfl, _, rfl, ?_⟩⟩⟩
    have s1 := sm.trans (same_new (o := .tup [.str "journal", .str "block", .str "page", .str "cell", .str "bucket", .str "parity"]) nt1)
    refine ite2 (fun c2 => ?_) (fun c2 => ?_)
    · have ow : isWord x = false := by
        cases z : isWord x with
        | false => rfl
        | true =>
          have c2' : (!inV (.str x) (units6.map V.str)) = true := c2
          rw [in_strs] at c2'
          have z' : (units6.any fun y => y == x) = true := z
          rw [z'] at c2'
          cases c2'
      have z := goErr _ (take_odd hx ow)
      exact ⟨_, rfl, kwAt _ _ s1 z⟩
    have hw : isWord x = true := by
      cases z : isWord x with
      | true => rfl
      | false =>
        refine absurd ?_ c2
        show (!inV (.str x) (units6.map V.str)) = true
        rw [in_strs]
        have z' : (units6.any fun y => y == x) = false := z
        rw [z']
        rfl
    obtain ⟨x1, x2, x3⟩ := word_ix hw
    have nb := numOf_le x
    clear c1 c2
    generalize upd H' t1 (.tup [.str "journal", .str "block", .str "page", .str "cell", .str "bucket", .str "parity"]) = H1 at s1 ⊢
    refine ⟨(by decide : (6 : Nat) ≤ sizeLine), fun w6 n6 _ => ⟨.inl ⟨rfl, _, SqL.of upd_same⟩, _, rfl, _, rfl, ixw _ (i := i) (s1.trans (same_new n6)) hx ⟨w6, units6.map V.str, .str x, wordIx x, .str x, rfl, rfl, SqL.of upd_same, rfl, by decide +kernel, x1, eqV_str x, x2, ?_⟩⟩⟩
    have s2 := s1.trans (same_new (o := .lst [.str "journal", .str "block", .str "page", .str "cell", .str "bucket", .str "parity"]) n6)
    generalize upd H1 w6 (.lst [.str "journal", .str "block", .str "page", .str "cell", .str "bucket", .str "parity"]) = H2 at s2 ⊢
    refine ⟨(by decide : (6 : Nat) ≤ sizeLine), fun l6 nl6 _ => ⟨_, rfl, ix_sq (.inr (SqL.of upd_same)) (v := .int (numOf x)) (atI_nat (many_at hw)) ⟨_, rfl, _, _, rfl, ?_⟩⟩⟩
    have s3 := s2.trans (same_new (o := .lst [.int 0, .int 1, .int 1, .int 2, .int 1, .int 2]) nl6)
    generalize upd H2 l6 (.lst [.int 0, .int 1, .int 1, .int 2, .int 1, .int 2]) = H3 at s3 ⊢
    have inv0 := at_zero (last := last) hx hw
    refine ⟨_, rfl, numOf x, rfl, by omega, by omega, ?_⟩
    refine for_range (n := (numOf x).toNat) (fun n σ' H' => ∃ ns a4, σ' = [some (.ref q), some (.int i), some (.int last), some (.int (wordIx x)), a4, some (.int (pr (wordIx x) ns)), some (.int (numOf x))] ∧ ns.length = n ∧ Same H H' ∧ At ws last i x n ns) ?_ ?_ ?_
    · exact ⟨[], _, rfl, rfl, s3, inv0⟩
    · rintro n σ' H4 hn ⟨ns, a4, rfl, hl, sn, inv⟩
      rw [show (0 : Int) + ((n : Nat) : Int) = ((n : Nat) : Int) from Int.zero_add _]
      refine ⟨_, rfl, .inl ⟨_, _, rfl, rfl, _, rfl, .inl ⟨_, _, rfl, rfl, _, rfl, _, _, rfl, lenw _ sn, _, _, rfl, rfl, _, rfl, ?_⟩⟩⟩
      refine ite2 (fun c1 => ?_) (fun c1 => ?_)
      · have z : ws.length ≤ i + 1 + n := by have q := of_decide_eq_true c1; omega
        have e := goErr _ (at_stop inv hn (nums_none (List.getElem?_eq_none z)))
        exact ⟨_, rfl, .inl ⟨_, _, rfl, rfl, _, rfl, .inl ⟨_, _, rfl, rfl, kwAt _ _ sn e⟩⟩⟩
      · have lt : i + 1 + n < ws.length := by
          rcases Nat.lt_or_ge (i + 1 + n) ws.length with z | z
          · exact z
          · exact absurd (decide_eq_true (show ((ws.length : Nat) : Int) ≤ (i : Int) + 1 + (n : Nat) by omega)) c1
        have ht : ws[i + 1 + n]? = some ws[i + 1 + n] := List.getElem?_eq_getElem lt
        generalize ws[i + 1 + n] = t at ht
        have mem := List.mem_of_getElem? ht
        have mt := row.short t mem
        have mo := row.ok t mem
        refine ⟨_, rfl, _, rfl, .inl ⟨_, _, rfl, rfl, _, rfl, .inl ⟨_, _, rfl, rfl, ixw _ (i := i + 1 + n) sn ht ⟨_, rfl, .inl ⟨rfl, _, rfl, ?_⟩⟩⟩⟩⟩
        refine ite2 (fun c3 => ⟨_, rfl, .inl ⟨rfl, .inr ⟨_, rfl, t, x, n, ?_, mt, mo, fun H6 s6 => ⟨_, rfl, ?_⟩⟩⟩⟩) (fun c3 => .inr ⟨_, rfl, t, x, n, ?_, mt, mo, fun H6 s6 => ⟨_, rfl, ?_⟩⟩)
        · have e3 : (wordIx x : Int) = 3 := V.int.inj (of_decide_eq_true c3)
          have xc := (cell_ix hw).mp e3
          have e : (if decide (V.int ((n : Nat) : Int) = V.int 0) = true then (1 : Int) else 0) = lowOf x n := by
            unfold lowOf
            by_cases n0 : n = 0
            · rw [if_pos (decide_eq_true (by rw [n0]; rfl)), if_pos ⟨xc, n0⟩]
            · rw [if_neg (fun z => n0 (by have q := V.int.inj (of_decide_eq_true z); omega)), if_neg (fun z => n0 z.2)]
          show [V.str t, V.int (if decide (V.int ((n : Nat) : Int) = V.int 0) = true then (1 : Int) else 0)] = [V.str t, V.int (lowOf x n)]
          rw [e]
        · show if (!goodW x n t) = true then _ else _
          cases g : goodW x n t with
          | false =>
            have z := goErr _ (at_stop inv hn (nums_bad ht (by rw [hl]; exact g)))
            exact ⟨_, rfl, .inl ⟨_, _, rfl, rfl, _, rfl, .inl ⟨_, _, rfl, rfl, kwAt _ _ (sn.trans s6) z⟩⟩⟩
          | true =>
            obtain ⟨gi, g0, g9⟩ := good_int g mt
            refine ⟨_, rfl, .inl ⟨_, _, rfl, rfl, .inr ⟨by decide, by decide⟩, _, rfl, _, rfl, .inl ⟨_, _, rfl, rfl, _, rfl, .inl ⟨_, _, rfl, rfl, ixw _ (i := i + 1 + n) (sn.trans s6) ht ⟨t, _, rfl, gi, by omega, .inl ⟨_, _, rfl, rfl, ?_⟩⟩⟩⟩⟩⟩
            refine ⟨ns ++ [wholeNum t], some (V.int ((n : Nat) : Int)), ?_, by rw [List.length_append]; show ns.length + 1 = n + 1; omega, sn.trans s6, at_next inv hn hl ht (by rw [hl]; exact g)⟩
            rw [pr_snoc]
            rfl
        · have nc : x ≠ "cell" := fun z => c3 (decide_eq_true (congrArg V.int ((cell_ix hw).mpr z)))
          have e : lowOf x n = 0 := by
            unfold lowOf
            rw [if_neg (fun z => nc z.1)]
          show [V.str t, V.int 0] = [V.str t, V.int (lowOf x n)]
          rw [e]
        · show if (!goodW x n t) = true then _ else _
          cases g : goodW x n t with
          | false =>
            have z := goErr _ (at_stop inv hn (nums_bad ht (by rw [hl]; exact g)))
            exact ⟨_, rfl, .inl ⟨_, _, rfl, rfl, _, rfl, .inl ⟨_, _, rfl, rfl, kwAt _ _ (sn.trans s6) z⟩⟩⟩
          | true =>
            obtain ⟨gi, g0, g9⟩ := good_int g mt
            refine ⟨_, rfl, .inl ⟨_, _, rfl, rfl, .inr ⟨by decide, by decide⟩, _, rfl, _, rfl, .inl ⟨_, _, rfl, rfl, _, rfl, .inl ⟨_, _, rfl, rfl, ixw _ (i := i + 1 + n) (sn.trans s6) ht ⟨t, _, rfl, gi, by omega, .inl ⟨_, _, rfl, rfl, ?_⟩⟩⟩⟩⟩⟩
            refine ⟨ns ++ [wholeNum t], some (V.int ((n : Nat) : Int)), ?_, by rw [List.length_append]; show ns.length + 1 = n + 1; omega, sn.trans s6, at_next inv hn hl ht (by rw [hl]; exact g)⟩
            rw [pr_snoc]
            rfl
    · rintro σ' H4 ⟨ns, a4, rfl, hl, sn, inv⟩
      have l2 : ns.length ≤ 2 := by omega
      have tk := inv.2 rfl
      have mul : ([V.int 10000, V.int 100, V.int 1] : List V)[(numOf x).toNat]? = some (V.int (mulOf ns.length)) := by
        rw [← hl]
        match ns, l2 with
        | [], _ => rfl
        | [_], _ => rfl
        | [_, _], _ => rfl
      have eN : ((numOf x).toNat : Int) = numOf x := by omega
      have small : CMul (pr (wordIx x) ns) (mulOf ns.length) := .inr (mul_small2 _)
      refine ⟨_, rfl, (by decide : (3 : Nat) ≤ sizeLine), fun l3 nl3 _ => ⟨_, rfl, ix_sq (i := numOf x) (.inr (SqL.of upd_same)) (by rw [← eN]; exact atI_nat mul) (.inl ⟨_, _, rfl, rfl, small, ?_⟩)⟩⟩
      show gName 5 (V.int (pr (wordIx x) ns * mulOf ns.length)) _ _ _
      rw [pr_rank l2]
      have s5 := sn.trans (same_new (o := .lst [.int 10000, .int 100, .int 1]) nl3)
      generalize upd H4 l3 (.lst [.int 10000, .int 100, .int 1]) = H5 at s5 ⊢
      refine ⟨_, rfl, _, rfl, _, _, rfl, rfl, _, rfl, ?_⟩
      refine ite2 (fun c1 => ?_) (fun c1 => ?_)
      · have nlt : ¬ last < rankOf x ns := by have z := of_decide_eq_true c1; omega
        rw [if_neg nlt] at tk
        refine ⟨_, rfl, _, rfl, .inl ⟨_, _, rfl, rfl, ?_⟩⟩
        have z := kwAt _ _ s5 (goErr _ tk)
        rw [show ((i + (numOf x).toNat : Nat) : Int) = (i : Int) + numOf x by omega] at z
        exact z
      · have lt : last < rankOf x ns := by
          by_cases z : last < rankOf x ns
          · exact z
          · exact absurd (decide_eq_true (by omega)) c1
        rw [if_pos lt] at tk
        have eG : G = if ws.length ≤ i + 1 + ns.length then none else if ws[i + 1 + ns.length]? = some ("," : Str) then goR ws f (rankOf x ns) (i + 1 + ns.length + 1) else some (i + 1 + ns.length) := by
          rw [← hG]
          show (match takeR ws last [] i with | .error j => some j | .ok (x, ns) => _) = _
          rw [tk]
        have ei : (i : Int) + numOf x + 1 = ((i + 1 + ns.length : Nat) : Int) := by omega
        have le : i + 1 + ns.length ≤ ws.length := by
          have z := take_len tk
          omega
        refine ⟨_, rfl, _, rfl, _, rfl, .inl ⟨_, _, rfl, rfl, .inl ⟨_, _, rfl, rfl, .int (rankOf x ns), .int ((i + 1 + ns.length : Nat) : Int), (by show [V.int (rankOf x ns), V.int ((i : Int) + numOf x + 1)] = _; rw [ei]), ?_⟩⟩⟩
        refine ⟨_, rfl, _, rfl, _, _, rfl, lenw _ s5, .inl ⟨rfl, _, rfl, ?_⟩⟩
        refine ite2 (fun c2 => ?_) (fun c2 => ?_)
        · have z : i + 1 + ns.length = ws.length := by have q := V.int.inj (of_decide_eq_true c2); omega
          rw [if_pos (by omega)] at eG
          have y := kw _ s5
          rw [eG] at y
          exact y
        · have z : i + 1 + ns.length < ws.length := by
            rcases Nat.lt_or_ge (i + 1 + ns.length) ws.length with q | q
            · exact q
            · exact absurd (decide_eq_true (congrArg V.int (show ((i + 1 + ns.length : Nat) : Int) = ((ws.length : Nat) : Int) by omega))) c2
          rw [if_neg (by omega)] at eG
          have hc : ws[i + 1 + ns.length]? = some ws[i + 1 + ns.length] := List.getElem?_eq_getElem z
          generalize ws[i + 1 + ns.length] = u at hc
          rw [hc] at eG
          refine ⟨_, rfl, _, rfl, ixw _ (i := i + 1 + ns.length) s5 hc (.inl ⟨rfl, _, rfl, ?_⟩)⟩
          refine ite2 (fun c3 => ?_) (fun c3 => ?_)
          · have nu : u ≠ "," := fun q => by
              have c3' : (!decide (V.str u = V.str ",")) = true := c3
              rw [q, decide_eq_true rfl] at c3'
              cases c3'
            rw [if_neg (fun q => nu (Option.some.inj q))] at eG
            exact ⟨_, rfl, kwAt _ _ s5 eG⟩
          · have eu : u = "," := by
              by_cases q : u = ","
              · exact q
              · refine absurd ?_ c3
                show (!decide (V.str u = V.str ",")) = true
                rw [decide_eq_false (fun y => q (V.str.inj y))]
                rfl
            rw [if_pos (by rw [eu])] at eG
            exact ⟨_, rfl, .inl ⟨_, _, rfl, rfl, i + 1 + ns.length + 1, f, rankOf x ns, _, _, _, _, by omega, rfl, s5, by omega, by omega, eG.symm⟩⟩
end
end L2.K32
set_option Elab.async false
set_option linter.all false
set_option maxRecDepth 100000
set_option maxHeartbeats 4000000
/-! A row of words bent at one place. -/
namespace L2.K32
open PySem PySem.Spec PyProof.Rows L2.RV
/-- a row of words without blanks -/
structure RowP (H : Hp) (p q : Addr) (ws : List Str) (n : Nat) : Prop where
  row : RowAt H q ws n
  plain : ∀ x, x ∈ ws → (32 : Nat) ∉ TL.tl x
  np : q ≠ p
theorem RowAt.keep {H H' : Hp} {p q : Addr} {ws : List Str} {n : Nat} (r : RowAt H q ws n) (np : q ≠ p) (k : Keep p H H') : RowAt H' q ws n := ⟨k _ _ np r.at_, r.ne, r.few, r.short, r.ok⟩
theorem RowP.keep {H H' : Hp} {p q : Addr} {ws : List Str} {n : Nat} (r : RowP H p q ws n) (k : Keep p H H') : RowP H' p q ws n := ⟨r.row.keep r.np k, r.plain, r.np⟩
def okW (x : Str) : Prop := x.length ≤ 50 ∧ PyData.strOk x = true ∧ (32 : Nat) ∉ TL.tl x
/-- _law_row_bent(pen, words) -/
def spLRowBent : Sp := fun vs H Q _ => ∃ (p l q : Addr) (ns : List Int) (a r : Int) (ws : List Str) (n : Nat), vs = [.ref p, .ref q] ∧ PenAt H p l ns a r ∧ a ≤ 90000 ∧ RowP H p q ws n ∧ n ≤ 90 ∧
  ∀ H' a' r' q' ws', Keep p H H' → PenAt H' p l ns a' r' → a' ≤ a + 3 → RowP H' p q' ws' (2 * n + 1) → Q (.ref q') H'
theorem cut_strs (ws : List Str) (lo hi : Option Int) : ∃ W : List Str, cutV (ws.map V.str) lo hi = W.map V.str ∧ W.length ≤ ws.length ∧ (∀ x, x ∈ W → x ∈ ws) ∧ W = (ws.drop (HT.sIx ws.length 0 lo)).take (HT.sIx ws.length ws.length hi - HT.sIx ws.length 0 lo) := by
  refine ⟨(ws.drop (HT.sIx ws.length 0 lo)).take (HT.sIx ws.length ws.length hi - HT.sIx ws.length 0 lo), ?_, ?_, fun x hx => List.mem_of_mem_drop (List.mem_of_mem_take hx), rfl⟩
  · unfold cutV
    rw [List.map_take, List.map_drop, List.length_map]
  · rw [List.length_take, List.length_drop]
    omega
theorem cut_first (ws : List Str) (k : Nat) : cutV (ws.map V.str) none (some (k : Int)) = (ws.take k).map V.str := by
  unfold cutV
  rw [HT.sIx_nat, HT.sIx_none, List.drop_zero, Nat.sub_zero, List.map_take, List.length_map]
  rcases Nat.le_total k ws.length with z | z
  · rw [Nat.min_eq_left z]
  · rw [Nat.min_eq_right z, List.take_of_length_le (by rw [List.length_map]; exact Nat.le_refl _), List.take_of_length_le (by rw [List.length_map]; exact z)]
theorem cut_rest (ws : List Str) (k : Nat) : cutV (ws.map V.str) (some (k : Int)) none = (ws.drop k).map V.str := by
  unfold cutV
  rw [HT.sIx_nat, HT.sIx_none, List.map_drop, List.length_map]
  rcases Nat.le_total k ws.length with z | z
  · rw [Nat.min_eq_left z, List.take_of_length_le (by rw [List.length_drop, List.length_map]; exact Nat.le_refl _)]
  · rw [Nat.min_eq_right z, List.drop_of_length_le (by rw [List.length_map]; exact Nat.le_refl _), List.drop_of_length_le (by rw [List.length_map]; exact z), List.take_nil]
theorem cut_mid (ws : List Str) (k j : Nat) : cutV (ws.map V.str) (some (k : Int)) (some (j : Int)) = ((ws.drop k).take (j - k)).map V.str := by
  unfold cutV
  rw [HT.sIx_nat, HT.sIx_nat, List.map_take, List.map_drop, List.length_map]
  rcases Nat.le_total k ws.length with z | z
  · rw [Nat.min_eq_left z]
    rcases Nat.le_total j ws.length with y | y
    · rw [Nat.min_eq_left y]
    · rw [Nat.min_eq_right y, List.take_of_length_le (by rw [List.length_drop, List.length_map]; exact Nat.le_refl _), List.take_of_length_le (by rw [List.length_drop, List.length_map]; omega)]
  · rw [Nat.min_eq_right z, List.drop_of_length_le (by rw [List.length_map]; exact Nat.le_refl _), List.drop_of_length_le (by rw [List.length_map]; exact z), List.take_nil, List.take_nil]
section
variable {P : Program} {w : World} {K : PySem.W.Frag} {mg : Str → Option Value} {base : Heap} {fd : FuncData}
theorem ok_law_row_bent (T : Top w K mg) (D_law_draw : Def P w K mg base "_law_draw" 1 ["_law_pen_here", "_law_many"] spDraw) (D_law_pick : Def P w K mg base "_law_pick" 2 ["_law_pen_here", "_law_some"] spPick) (F : Fn K "_law_row_bent" s_law_row_bent fd) : FnOk P w K mg base CX0 3 (He.ga K "_law_row_bent") fd ["_law_pen_here", "_law_words"] spLRowBent := by
  refine F.ok sc_law_row_bent (fun vs H Q E h => ?_) (fun cdv A outer s H vs Q E hr h => ?_)
  · obtain ⟨p, l, q, ns, a, r, ws, n, rfl, _⟩ := h
    rfl
  · obtain ⟨p, l, q, ns, a, r, ws, n, rfl, pa, ha, rp, hn, k⟩ := h
    have hu := hr.units
    refine ⟨_, PSs.nox (pss_cons (ps_par (i := 3) (j := 4) (by rfl) sc_law_row_bent.nd rfl rfl (by decide) rfl rfl (pa_cons (pe_callD D_law_draw (hr.mono (by decide)) rfl (pa_cons (pv 0) (pa_cons (pe_op op_plus (pe_callB call_len rfl T.n_len (by decide +kernel) (pa_cons (pv 1) pa_nil)) pe_int) pa_nil))) (pa_cons (pe_callD D_law_draw (hr.mono (by decide)) rfl (pa_cons (pv 0) (pa_cons pe_int pa_nil))) pa_nil)) (by rfl))
      (pss_cons (ps_set (i := 2) sc_law_row_bent.nd rfl (by first | exact Or.inl rfl | exact Or.inr rfl) (pe_callD D_law_pick (hr.mono (by decide)) rfl (pa_cons (pv 0) (pa_cons (pe_lstN (pa_cons pe_str (pa_cons pe_str (pa_cons pe_str (pa_cons pe_str (pa_cons pe_str (pa_cons pe_str (pa_cons pe_str (pa_cons pe_str (pa_cons pe_str (pa_cons pe_str (pa_cons pe_str (pa_cons pe_str (pa_cons pe_str (pa_cons pe_str pa_nil))))))))))))))) pa_nil))))
      (pss_cons (ps_if (pt_cmpR (op_same hu) (pv 4) pe_int (nomark _)) (pss_one (ps_ret (pe_op op_plus (pe_op op_plus (pe_slice sl_list (pv 1) po_none (po_some (pv 3))) (pe_lstN (pa_cons (pv 2) pa_nil))) (pe_slice sl_list (pv 1) (po_some (pv 3)) po_none)))) pss_nil)
      (pss_cons (ps_if (PW.pt (pw_and (pt_cmpR (op_same hu) (pv 4) pe_int (nomark _)) (pw_and1 (pt_cmpR op_gt (pe_callB call_len rfl T.n_len (by decide +kernel) (pa_cons (pv 1) pa_nil)) pe_int (nomark _))))) (pss_one (ps_ret (pe_op op_plus (pe_slice sl_list (pv 1) po_none (po_some (pv 3))) (pe_slice sl_list (pv 1) (po_some (pe_op op_plus (pv 3) pe_int)) po_none)))) pss_nil)
      (pss_cons (ps_if (pt_cmpR (op_same hu) (pv 4) pe_int (nomark _)) (pss_one (ps_ret (pe_op op_plus (pe_op op_plus (pe_slice sl_list (pv 1) po_none (po_some (pv 3))) (pe_revL (pe_slice sl_list (pv 1) (po_some (pv 3)) (po_some (pe_op op_plus (pv 3) pe_int))))) (pe_slice sl_list (pv 1) (po_some (pe_op op_plus (pv 3) pe_int)) po_none)))) pss_nil)
      (pss_cons (ps_if (pt_cmpR (op_same hu) (pv 4) pe_int (nomark _)) (pss_one (ps_ret (pe_op op_plus (pe_op op_plus (pv 1) (pe_lstN (pa_cons pe_str pa_nil))) (pv 1)))) pss_nil)
      (pss_one (ps_ret (pe_op op_plus (pe_op op_plus (pe_slice sl_list (pv 1) po_none (po_some (pv 3))) (pe_lstN (pa_cons (pv 2) pa_nil))) (pe_slice sl_list (pv 1) (po_some (pe_op op_plus (pv 3) pe_int)) po_none)))))))))), ?_⟩
    have row := rp.row
    have hq0 := row.at_
    have few := row.few
    have fin : ∀ (ws' : List Str) (H' : Hp) (a' r' : Int) (q' : Addr), Keep p H H' → PenAt H' p l ns a' r' → a' ≤ a + 3 → H' q' = some (.lst (ws'.map V.str)) → q' ≠ p → ws' ≠ [] → ws'.length ≤ 2 * n + 1 → (∀ x, x ∈ ws' → okW x) → Q (.ref q') H' := fun ws' H' a' r' q' kp pa' la hq' nq ne fw al =>
      k H' a' r' q' ws' kp pa' la ⟨⟨hq', ne, fw, fun x hx => (al x hx).1, fun x hx => (al x hx).2.1⟩, fun x hx => (al x hx).2.2, nq⟩
    have alw : ∀ x, x ∈ ws → okW x := fun x hx => ⟨row.short x hx, row.ok x hx, rp.plain x hx⟩
    have lenw : LenV K (.ref q) H ws.length := by
      have z := len_sq (K := K) (H := H) (p := q) (xs := ws.map V.str) (.inr (SqL.of hq0))
      rw [List.length_map] at z
      exact z
    have big : sizeLine = 16777216 := sizeLine_eq
    refine ⟨_, rfl, _, rfl, _, _, rfl, lenw, .inl ⟨_, _, rfl, rfl, p, l, ns, a, r, _, rfl, pa, by omega, by omega, by omega, fun H1 a1 r1 d k1 p1 l1 d0 d1 => ?_⟩⟩
    refine ⟨_, rfl, p, l, ns, a1, r1, 5, rfl, p1, by omega, by decide, by decide, fun H2 a2 r2 e k2 p2 l2 e0 e1 => ⟨_, _, rfl, ?_⟩⟩
    refine set_of (pick_lst (xs := [.str "", .str "-", .str ",", .str "block", .str "journal", .str "cell", .str "0", .str "1", .str "00", .str "99", .str "100", .str "x", .str "parity", .str "2
"]) rfl p2 (by omega) (by decide) (by decide) (fun R h => h) fun H3 a3 r3 v k3 p3 l3 m3 => ?_)
    have hv : ∃ s : Str, v = .str s ∧ okW s := by
      simp only [List.mem_cons, List.not_mem_nil, or_false] at m3
      rcases m3 with rfl | rfl | rfl | rfl | rfl | rfl | rfl | rfl | rfl | rfl | rfl | rfl | rfl | rfl <;> exact ⟨_, rfl, by decide +kernel, by decide +kernel, by decide +kernel⟩
    obtain ⟨s, rfl, oks⟩ := hv
    obtain ⟨j, rfl⟩ := Int.eq_ofNat_of_zero_le d0
    have kk := (k1.trans k2).trans k3
    have hq := kk _ _ rp.np hq0
    have la : a3 ≤ a + 3 := by omega
    have tk : ∀ x, x ∈ ws.take j → okW x := fun x hx => alw x (List.mem_of_mem_take hx)
    have dk : ∀ m x, x ∈ ws.drop m → okW x := fun m x hx => alw x (List.mem_of_mem_drop hx)
    have lt : (ws.take j).length ≤ ws.length := by rw [List.length_take]; omega
    have ld : ∀ m, (ws.drop m).length ≤ ws.length := fun m => by rw [List.length_drop]; omega
    have ej : ∀ c : Nat, (j : Int) + (c : Nat) = ((j + c : Nat) : Int) := fun c => by omega
    clear k1 k2 k3 p1 p2
    have lenw3 : LenV K (.ref q) H3 ws.length := by
      have z := len_sq (K := K) (H := H3) (p := q) (xs := ws.map V.str) (.inr (SqL.of hq))
      rw [List.length_map] at z
      exact z
    refine ⟨_, rfl, .inl ⟨rfl, _, rfl, ?_⟩⟩
    refine ite2 (fun c => ?_) (fun c => ?_)
    · refine ⟨_, rfl, _, rfl, _, rfl, q, _, rfl, SqL.of hq, fun b1 n1 => ?_⟩
      rw [cut_first]
      have s1 := same_new (o := .lst ((ws.take j).map V.str)) n1
      refine ⟨_, rfl, (by decide : (1 : Nat) ≤ sizeLine), fun b2 n2 _ => .inr (.inl ⟨b1, b2, _, _, rfl, rfl, same_new n2 _ _ upd_same, upd_same, by rw [List.length_map]; show _ + 1 ≤ _; omega, fun b3 n3 => ?_⟩)⟩
      have s2 := same_new (o := .lst [.str s]) n2
      have s3 := same_new (o := .lst ((ws.take j).map V.str ++ [.str s])) n3
      have s123 := (s1.trans s2).trans s3
      refine ⟨_, rfl, _, rfl, _, rfl, q, _, rfl, SqL.of (s123 _ _ hq), fun b4 n4 => ?_⟩
      rw [cut_rest]
      have s4 := same_new (o := .lst ((ws.drop j).map V.str)) n4
      refine .inr (.inl ⟨b3, b4, _, _, rfl, rfl, s4 _ _ upd_same, upd_same, by have := ld j; rw [List.length_append, List.length_map, List.length_map]; show (ws.take j).length + 1 + _ ≤ _; omega, fun b5 n5 => ?_⟩)
      have s5 := (s123.trans s4).trans (same_new (o := .lst (((ws.take j).map V.str ++ [.str s]) ++ (ws.drop j).map V.str)) n5)
      refine fin (ws.take j ++ [s] ++ ws.drop j) _ a3 r3 b5 (kk.trans (Keep.of s5)) (p3.same s5) la (by rw [upd_same, List.map_append, List.map_append]; rfl) (ne_of_none ((s123.trans s4) _ _ p3.pen) n5).symm (by intro z; have := congrArg List.length z; rw [List.length_append, List.length_append] at this; have z2 : (ws.take j).length + 1 + (ws.drop j).length = 0 := this; omega) ?_ ?_
      · rw [List.length_append, List.length_append]
        show (ws.take j).length + 1 + (ws.drop j).length ≤ _
        rw [List.length_take, List.length_drop]
        omega
      · intro x hx
        rcases List.mem_append.mp hx with z | z
        · rcases List.mem_append.mp z with z | z
          · exact tk x z
          · rcases List.mem_singleton.mp z with rfl
            exact oks
        · exact dk _ x z
    refine ⟨_, rfl, .inl ⟨rfl, _, rfl, ?_⟩⟩
    refine (fun rest => ite2 (fun c1 => ⟨_, rfl, _, _, rfl, lenw3, _, _, rfl, rfl, _, rfl, ite2 (fun c2 => ?_) (fun _ => rest)⟩) (fun _ => rest)) ?_
    rotate_left
    · have l1 : 1 < ws.length := by have z := of_decide_eq_true c2; omega
      refine ⟨_, rfl, _, rfl, _, rfl, q, _, rfl, SqL.of hq, fun b1 n1 => ?_⟩
      rw [cut_first]
      have s1 := same_new (o := .lst ((ws.take j).map V.str)) n1
      refine ⟨_, rfl, _, rfl, .inl ⟨_, _, rfl, rfl, _, rfl, q, _, rfl, SqL.of (s1 _ _ hq), fun b4 n4 => ?_⟩⟩
      rw [show (j : Int) + 1 = ((j + 1 : Nat) : Int) from ej 1, cut_rest]
      have s4 := same_new (o := .lst ((ws.drop (j + 1)).map V.str)) n4
      refine .inr (.inl ⟨b1, b4, _, _, rfl, rfl, s4 _ _ upd_same, upd_same, by have := ld (j + 1); rw [List.length_map, List.length_map]; omega, fun b5 n5 => ?_⟩)
      have s5 := (s1.trans s4).trans (same_new (o := .lst ((ws.take j).map V.str ++ (ws.drop (j + 1)).map V.str)) n5)
      have ll : (ws.take j ++ ws.drop (j + 1)).length + 1 ≥ ws.length ∧ (ws.take j ++ ws.drop (j + 1)).length ≤ ws.length := by
        rw [List.length_append, List.length_take, List.length_drop]
        omega
      refine fin (ws.take j ++ ws.drop (j + 1)) _ a3 r3 b5 (kk.trans (Keep.of s5)) (p3.same s5) la (by rw [upd_same, List.map_append]) (ne_of_none ((s1.trans s4) _ _ p3.pen) n5).symm (by intro z; have := congrArg List.length z; have z2 : (ws.take j ++ ws.drop (j + 1)).length = 0 := this; omega) (by omega) ?_
      intro x hx
      rcases List.mem_append.mp hx with z | z
      · exact tk x z
      · exact dk _ x z
    refine ⟨_, rfl, .inl ⟨rfl, _, rfl, ?_⟩⟩
    refine ite2 (fun c2 => ?_) (fun c2 => ?_)
    · refine ⟨_, rfl, _, rfl, _, rfl, q, _, rfl, SqL.of hq, fun b1 n1 => ?_⟩
      rw [cut_first]
      have s1 := same_new (o := .lst ((ws.take j).map V.str)) n1
      refine ⟨_, rfl, _, rfl, _, rfl, _, rfl, .inl ⟨_, _, rfl, rfl, _, rfl, q, _, rfl, SqL.of (s1 _ _ hq), fun b2 n2 => ?_⟩⟩
      rw [show (j : Int) + 2 = ((j + 2 : Nat) : Int) from ej 2, cut_mid]
      have s2 := same_new (o := .lst (((ws.drop j).take (j + 2 - j)).map V.str)) n2
      refine ⟨b2, _, rfl, SqL.of upd_same, fun b3 n3 => ?_⟩
      rw [← List.map_reverse]
      generalize hM : ((ws.drop j).take (j + 2 - j)).reverse = M
      have lM : M.length = min 2 (ws.length - j) := by
        rw [← hM, List.length_reverse, List.length_take, List.length_drop]
        omega
      have mM : ∀ x, x ∈ M → okW x := fun x hx => by
        rw [← hM] at hx
        exact dk _ x (List.mem_of_mem_take (List.mem_reverse.mp hx))
      have s3 := same_new (o := .lst (M.map V.str)) n3
      have s12 := s1.trans s2
      refine .inr (.inl ⟨b1, b3, _, _, rfl, rfl, s3 _ _ (s2 _ _ upd_same), upd_same, by rw [List.length_map, List.length_map]; omega, fun b4 n4 => ?_⟩)
      have s4 := same_new (o := .lst ((ws.take j).map V.str ++ M.map V.str)) n4
      have s1234 := (s12.trans s3).trans s4
      refine ⟨_, rfl, _, rfl, .inl ⟨_, _, rfl, rfl, _, rfl, q, _, rfl, SqL.of (s1234 _ _ hq), fun b5 n5 => ?_⟩⟩
      rw [show (j : Int) + 2 = ((j + 2 : Nat) : Int) from ej 2, cut_rest]
      have s5 := same_new (o := .lst ((ws.drop (j + 2)).map V.str)) n5
      refine .inr (.inl ⟨b4, b5, _, _, rfl, rfl, s5 _ _ upd_same, upd_same, by have := ld (j + 2); rw [List.length_append, List.length_map, List.length_map, List.length_map]; omega, fun b6 n6 => ?_⟩)
      have s6 := (s1234.trans s5).trans (same_new (o := .lst (((ws.take j).map V.str ++ M.map V.str) ++ (ws.drop (j + 2)).map V.str)) n6)
      have ll : (ws.take j ++ M ++ ws.drop (j + 2)).length = ws.length := by
        rw [List.length_append, List.length_append, List.length_take, List.length_drop, lM]
        omega
      refine fin (ws.take j ++ M ++ ws.drop (j + 2)) _ a3 r3 b6 (kk.trans (Keep.of s6)) (p3.same s6) la (by rw [upd_same, List.map_append, List.map_append]) (ne_of_none ((s1234.trans s5) _ _ p3.pen) n6).symm (by intro z; have := congrArg List.length z; rw [ll] at this; exact row.ne (List.length_eq_zero_iff.mp this)) (by omega) ?_
      intro x hx
      rcases List.mem_append.mp hx with z | z
      · rcases List.mem_append.mp z with z | z
        · exact tk x z
        · exact mM x z
      · exact dk _ x z
    refine ⟨_, rfl, .inl ⟨rfl, _, rfl, ?_⟩⟩
    refine ite2 (fun c3 => ?_) (fun c3 => ?_)
    · refine ⟨_, rfl, (by decide : (1 : Nat) ≤ sizeLine), fun b1 n1 _ => .inr (.inl ⟨q, b1, _, _, rfl, rfl, same_new n1 _ _ hq, upd_same, by rw [List.length_map]; show _ + 1 ≤ _; omega, fun b2 n2 => ?_⟩)⟩
      have s1 := same_new (o := .lst [.str ","]) n1
      have s2 := s1.trans (same_new (o := .lst (ws.map V.str ++ [.str ","])) n2)
      refine ⟨_, rfl, .inr (.inl ⟨b2, q, _, _, rfl, rfl, upd_same, s2 _ _ hq, by rw [List.length_append, List.length_map]; show _ + 1 + _ ≤ _; omega, fun b3 n3 => ?_⟩)⟩
      have s3 := s2.trans (same_new (o := .lst ((ws.map V.str ++ [.str ","]) ++ ws.map V.str)) n3)
      refine fin (ws ++ [("," : Str)] ++ ws) _ a3 r3 b3 (kk.trans (Keep.of s3)) (p3.same s3) la (by rw [upd_same, List.map_append, List.map_append]; rfl) (ne_of_none (s2 _ _ p3.pen) n3).symm (by intro z; have := congrArg List.length z; rw [List.length_append, List.length_append] at this; have z2 : ws.length + 1 + ws.length = 0 := this; omega) ?_ ?_
      · rw [List.length_append, List.length_append]
        show ws.length + 1 + ws.length ≤ _
        omega
      · intro x hx
        rcases List.mem_append.mp hx with z | z
        · rcases List.mem_append.mp z with z | z
          · exact alw x z
          · rcases List.mem_singleton.mp z with rfl
            exact ⟨by decide +kernel, by decide +kernel, by decide +kernel⟩
        · exact alw x z
    · refine ⟨_, rfl, _, rfl, _, rfl, q, _, rfl, SqL.of hq, fun b1 n1 => ?_⟩
      rw [cut_first]
      have s1 := same_new (o := .lst ((ws.take j).map V.str)) n1
      refine ⟨_, rfl, (by decide : (1 : Nat) ≤ sizeLine), fun b2 n2 _ => .inr (.inl ⟨b1, b2, _, _, rfl, rfl, same_new n2 _ _ upd_same, upd_same, by rw [List.length_map]; show _ + 1 ≤ _; omega, fun b3 n3 => ?_⟩)⟩
      have s2 := same_new (o := .lst [.str s]) n2
      have s3 := same_new (o := .lst ((ws.take j).map V.str ++ [.str s])) n3
      have s123 := (s1.trans s2).trans s3
      refine ⟨_, rfl, _, rfl, .inl ⟨_, _, rfl, rfl, _, rfl, q, _, rfl, SqL.of (s123 _ _ hq), fun b4 n4 => ?_⟩⟩
      rw [show (j : Int) + 1 = ((j + 1 : Nat) : Int) from ej 1, cut_rest]
      have s4 := same_new (o := .lst ((ws.drop (j + 1)).map V.str)) n4
      refine .inr (.inl ⟨b3, b4, _, _, rfl, rfl, s4 _ _ upd_same, upd_same, by have := ld (j + 1); rw [List.length_append, List.length_map, List.length_map]; show (ws.take j).length + 1 + _ ≤ _; omega, fun b5 n5 => ?_⟩)
      have s5 := (s123.trans s4).trans (same_new (o := .lst (((ws.take j).map V.str ++ [.str s]) ++ (ws.drop (j + 1)).map V.str)) n5)
      refine fin (ws.take j ++ [s] ++ ws.drop (j + 1)) _ a3 r3 b5 (kk.trans (Keep.of s5)) (p3.same s5) la (by rw [upd_same, List.map_append, List.map_append]; rfl) (ne_of_none ((s123.trans s4) _ _ p3.pen) n5).symm (by intro z; have := congrArg List.length z; rw [List.length_append, List.length_append] at this; have z2 : (ws.take j).length + 1 + (ws.drop (j + 1)).length = 0 := this; omega) ?_ ?_
      · rw [List.length_append, List.length_append]
        show (ws.take j).length + 1 + (ws.drop (j + 1)).length ≤ _
        rw [List.length_take, List.length_drop]
        omega
      · intro x hx
        rcases List.mem_append.mp hx with z | z
        · rcases List.mem_append.mp z with z | z
          · exact tk x z
          · rcases List.mem_singleton.mp z with rfl
            exact oks
        · exact dk _ x z
end
end L2.K32
set_option Elab.async false
set_option linter.all false
set_option maxRecDepth 100000
set_option maxHeartbeats 4000000
/-! A row of units drawn by the pen. -/
namespace L2.K32
open PySem PySem.Spec PyProof.Rows L2.RV
/-- _law_row_units(pen) -/
def spLRowUnits : Sp := fun vs H Q _ => ∃ (p l : Addr) (ns : List Int) (a r : Int), vs = [.ref p] ∧ PenAt H p l ns a r ∧ a ≤ 90000 ∧
  ∀ H' a' r' q us, Keep p H H' → PenAt H' p l ns a' r' → a' ≤ a + 16 → H' q = some (.lst ((us.map txtP).map V.str)) → q ≠ p → us.length ≤ 5 → (∀ u : PU, u ∈ us → Parts u.1 u.2) → Chain (-1) us → Q (.ref q) H'
theorem drawn_unit {j : Nat} {n o : Int} (hj : j < 6) (n0 : 0 ≤ n) (n1 : n ≤ 99) (o0 : 0 ≤ o) (o1 : o ≤ 99) (c3 : j = 3 → 1 ≤ n) : ∃ (y : Str) (ms : List Int) (c : Int), (units6.map V.str)[j]? = some (.str y) ∧ wordIx y = j ∧ ([V.int 0, .int 1, .int 1, .int 2, .int 1, .int 2])[j]? = some (.int c) ∧ cutV [V.int n, .int o] none (some c) = ms.map V.int ∧ Parts y ms := by
  match j, hj, c3 with
  | 0, _, _ => exact ⟨"journal", [], 0, rfl, by decide +kernel, rfl, rfl, parts0⟩
  | 1, _, _ => exact ⟨"block", [n], 1, rfl, by decide +kernel, rfl, rfl, parts1 (.inl rfl) n0 n1⟩
  | 2, _, _ => exact ⟨"page", [n], 1, rfl, by decide +kernel, rfl, rfl, parts1 (.inr (.inl rfl)) n0 n1⟩
  | 3, _, c3 => exact ⟨"cell", [n, o], 2, rfl, by decide +kernel, rfl, rfl, parts2 (.inl rfl) n0 n1 o0 o1 fun _ => c3 rfl⟩
  | 4, _, _ => exact ⟨"bucket", [n], 1, rfl, by decide +kernel, rfl, rfl, parts1 (.inr (.inr rfl)) n0 n1⟩
  | 5, _, _ => exact ⟨"parity", [n, o], 2, rfl, by decide +kernel, rfl, rfl, parts2 (.inr rfl) n0 n1 o0 o1 (fun z => absurd z (by decide +kernel))⟩
structure DInv (kvs : List (Key × V)) : Prop where
  nd : (kvs.map (·.1)).Nodup
  each : ∀ k v, valV kvs k = some v → ∃ u : PU, Parts u.1 u.2 ∧ k = kInt (lawRank u.1 u.2) ∧ v = .str (txtP u)
theorem DInv.nil : DInv [] := ⟨List.nodup_nil, fun k v z => by cases z⟩
theorem DInv.put {kvs : List (Key × V)} (d : DInv kvs) {u : PU} (p : Parts u.1 u.2) : DInv (putK kvs (kInt (lawRank u.1 u.2)) (.str (txtP u))) := by
  refine ⟨nodup_put d.nd, fun k v z => ?_⟩
  rw [valV_put] at z
  split at z
  · rename_i e
    cases z
    exact ⟨u, p, e, rfl⟩
  · exact d.each k v z
theorem rank_pos {y : Str} {ms : List Int} (p : Parts y ms) : (-1 : Int) < rankOf y ms := by
  have a := p.two
  unfold rankOf
  omega
section
variable {P : Program} {w : World} {K : PySem.W.Frag} {mg : Str → Option Value} {base : Heap} {fd : FuncData}
theorem ok_law_row_units (T : Top w K mg) (D_law_draw : Def P w K mg base "_law_draw" 1 ["_law_pen_here", "_law_many"] spDraw) (D_law_pick : Def P w K mg base "_law_pick" 2 ["_law_pen_here", "_law_some"] spPick) (F : Fn K "_law_row_units" s_law_row_units fd) : FnOk P w K mg base CX0 3 (He.ga K "_law_row_units") fd ["_law_pen_here"] spLRowUnits := by
  refine F.ok sc_law_row_units (fun vs H Q E h => ?_) (fun cdv A outer s H vs Q E hr h => ?_)
  · obtain ⟨p, l, ns, a, r, rfl, _⟩ := h
    rfl
  · obtain ⟨p, l, ns, a, r, rfl, pa, ha, k⟩ := h
    have hu := hr.units
    refine ⟨_, PSs.nox (pss_cons (ps_set (i := 1) sc_law_row_units.nd rfl (by first | exact Or.inl rfl | exact Or.inr rfl) pe_dnewK)
      (pss_cons (ps_for PassesOwn.never rfl (pi_range1 rfl T.n_range (pa_cons (pe_callD D_law_draw (hr.mono (by decide)) rfl (pa_cons (pv 0) (pa_cons pe_int pa_nil))) pa_nil)) (pg_name (i := 2) sc_law_row_units.nd rfl (by first | exact Or.inl rfl | exact Or.inr rfl)) (pss_cons (ps_par3 (i := 6) (j := 7) (l := 8) (by rfl) sc_law_row_units.nd rfl rfl rfl (by decide) (by decide) (by decide) rfl rfl rfl (pa_cons (pe_callD D_law_draw (hr.mono (by decide)) rfl (pa_cons (pv 0) (pa_cons pe_int pa_nil))) (pa_cons (pe_callD D_law_pick (hr.mono (by decide)) rfl (pa_cons (pv 0) (pa_cons (pe_lstN (pa_cons pe_int (pa_cons pe_int (pa_cons pe_int (pa_cons pe_int (pa_cons pe_int pa_nil)))))) pa_nil))) (pa_cons (pe_callD D_law_draw (hr.mono (by decide)) rfl (pa_cons (pv 0) (pa_cons pe_int pa_nil))) pa_nil))) (by rfl))
      (pss_cons (ps_set (i := 3) sc_law_row_units.nd rfl (by first | exact Or.inl rfl | exact Or.inr rfl) (pe_ix ix_seq (pe_lstN (pa_cons pe_str (pa_cons pe_str (pa_cons pe_str (pa_cons pe_str (pa_cons pe_str (pa_cons pe_str pa_nil))))))) (pv 6) (fun _ _ => rfl)))
      (pss_cons (ps_set (i := 4) sc_law_row_units.nd rfl (by first | exact Or.inl rfl | exact Or.inr rfl) (pe_slice sl_list (pe_lstN (pa_cons (pe_callB (call_max2 rfl) rfl T.n_max (by decide +kernel) (pa_cons (pv 7) (pa_cons (pe_callTy call_int1 rfl T.n_int (by decide +kernel) (pa_cons (pe_cmpR (op_same hu) (pv 6) pe_int (nomark _)) pa_nil)) pa_nil))) (pa_cons (pv 8) pa_nil))) po_none (po_some (pe_ix ix_seq (pe_lstN (pa_cons pe_int (pa_cons pe_int (pa_cons pe_int (pa_cons pe_int (pa_cons pe_int (pa_cons pe_int pa_nil))))))) (pv 6) (fun _ _ => rfl)))))
      (pss_cons (ps_set (i := 5) sc_law_row_units.nd rfl (by first | exact Or.inl rfl | exact Or.inr rfl) (pe_op op_plus (pe_op op_plus (pe_op op_times (pv 6) (pe_op op_pow pe_int pe_int)) (pe_op op_times (pe_ix ix_seq (pe_op op_plus (pv 4) (pe_lstN (pa_cons pe_int (pa_cons pe_int pa_nil)))) pe_int (fun _ _ => rfl)) pe_int)) (pe_ix ix_seq (pe_op op_plus (pv 4) (pe_lstN (pa_cons pe_int (pa_cons pe_int pa_nil)))) pe_int (fun _ _ => rfl))))
      (pss_one (ps_asg (pe_bm PySem.F.plainAttrs_str PySem.F.slot_str_join PySem.F.type_str_join mt_join pe_str (pa_cons (pe_op op_plus (pe_lstN (pa_cons (pv 3) pa_nil)) (pe_lc (own := [("_law_one", 9)]) (g := gName 9) (te := tStrI (tCons (tVar 9) tNil)) (tt := tYes) (by rfl) sc_law_row_units.nd (pi_list (pv 4)) (blkOk_by (own := [("_law_one", 9)]) (N := ["_law_pen_here", "_law_found", "_law_turn", "_law_word", "_law_numbers", "_law_rank_here", "_law_at", "_law_number", "_law_other", "_law_one"]) (sc := defScope s_law_row_units) (by decide +kernel)) (fun _ _ _ _ _ => by exact (pg_name (i := 9) sc_law_row_units.nd rfl (by first | exact Or.inl rfl | exact Or.inr rfl))) (fun _ _ _ _ _ => by exact pts_nil) (fun _ _ _ _ _ => by exact (pe_callTy call_str_int rfl T.n_str (by decide +kernel) (pa_cons (pv 9) pa_nil))))) pa_nil)) (pg_sub (pv 1) (pv 5) (set_dict (Nat.lt_of_le_of_lt (Nat.add_le_add_left (by decide) _) hu))))))))))
      (pss_one (ps_ret (pe_lc (own := [("_law_rank_here", 5)]) (g := gName 5) (te := tDGet (tVar 1) (tVar 5)) (tt := tYes) (by rfl) sc_law_row_units.nd (pi_list (pe_callB cr_sortedI rfl T.n_sorted (by decide +kernel) (pa_cons (pe_lock (pe_lc (own := [("_law_rank_here", 5)]) (g := gName 5) (te := tIntI (tCons (tVar 5) tNil)) (tt := tYes) (by rfl) sc_law_row_units.nd (pi_keys (pv 1)) (blkOk_by (own := [("_law_rank_here", 5)]) (N := ["_law_pen_here", "_law_found", "_law_turn", "_law_word", "_law_numbers", "_law_rank_here", "_law_at", "_law_number", "_law_other", "_law_one"]) (sc := defScope s_law_row_units) (by decide +kernel)) (fun _ _ _ _ _ => by exact (pg_name (i := 5) sc_law_row_units.nd rfl (by first | exact Or.inl rfl | exact Or.inr rfl))) (fun _ _ _ _ _ => by exact pts_nil) (fun _ _ _ _ _ => by exact (pe_callTy call_int1 rfl T.n_int (by decide +kernel) (pa_cons (pv 5) pa_nil))))) pa_nil))) (blkOk_by (own := [("_law_rank_here", 5)]) (N := ["_law_pen_here", "_law_found", "_law_turn", "_law_word", "_law_numbers", "_law_rank_here", "_law_at", "_law_number", "_law_other", "_law_one"]) (sc := defScope s_law_row_units) (by decide +kernel)) (fun _ _ _ _ _ => by exact (pg_name (i := 5) sc_law_row_units.nd rfl (by first | exact Or.inl rfl | exact Or.inr rfl))) (fun _ _ _ _ _ => by exact pts_nil) (fun _ _ _ _ _ => by exact (pe_dget (Nat.lt_of_le_of_lt (Nat.add_le_add_left (by decide) _) hu) (pv 1) (pv 5) (fun _ _ => rfl)))))))), ?_⟩
    refine set_of fun dd nd => ?_
    have s1 := same_new (o := .dK []) nd
    have hd : upd H dd (.dK []) dd = some (.dK []) := upd_same
    have dp : dd ≠ p := fun z => by rw [z, pa.pen] at nd; cases nd
    have pa1 := pa.same s1
    generalize upd H dd (.dK []) = H1 at s1 hd pa1 ⊢
    refine ⟨_, rfl, p, l, ns, a, r, 6, rfl, pa1, by omega, by decide, by decide, fun H2 a2 r2 many k2 p2 l2 m0 m1 => ?_⟩
    have kp2 := (Keep.of (p := p) s1).trans k2
    have hd2 := k2 _ _ dp hd
    obtain ⟨N, rfl⟩ := Int.eq_ofNat_of_zero_le m0
    have lN : N ≤ 5 := by omega
    refine ⟨_, rfl, by omega, by omega, ?_⟩
    refine for_range (n := (((N : Nat) : Int)).toNat) (fun n σ' H' => ∃ (x2 x3 x4 x5 x6 x7 x8 x9 : Option V) (a' r' : Int) (kvs : List (Key × V)), σ' = [some (.ref p), some (.ref dd), x2, x3, x4, x5, x6, x7, x8, x9] ∧ Keep p H H' ∧ PenAt H' p l ns a' r' ∧ a' ≤ a + 1 + 3 * (n : Nat) ∧ H' dd = some (.dK kvs) ∧ kvs.length ≤ n ∧ DInv kvs) ?_ ?_ ?_
    · exact ⟨_, _, _, _, _, _, _, _, a2, r2, [], rfl, kp2, p2, by omega, hd2, Nat.le_refl _, DInv.nil⟩
    · rintro n σ' H3 hn ⟨x2, x3, x4, x5, x6, x7, x8, x9, a3, r3, kvs, rfl, k3, p3, l3, h3, few, inv⟩
      have ln : n < N := by omega
      have ldd : l ≠ dd := ne_of_none pa.nums nd
      rw [show (0 : Int) + ((n : Nat) : Int) = ((n : Nat) : Int) from Int.zero_add _]
      refine ⟨_, rfl, p, l, ns, a3, r3, 6, rfl, p3, by omega, by decide, by decide, fun H4 a4 r4 e k4 p4 l4 e0 e1 => ?_⟩
      refine pick_lst (xs := [.int 0, .int 1, .int 2, .int 10, .int 99]) rfl p4 (by omega) (by decide) (by decide) (fun R h => h) fun H5 a5 r5 v k5 p5 l5 m5 => ?_
      have hv : ∃ m : Int, v = .int m ∧ 0 ≤ m ∧ m ≤ 99 := by
        simp only [List.mem_cons, List.not_mem_nil, or_false] at m5
        rcases m5 with rfl | rfl | rfl | rfl | rfl <;> exact ⟨_, rfl, by decide, by decide⟩
      obtain ⟨m, rfl, m0', m99⟩ := hv
      refine ⟨_, rfl, p, l, ns, a5, r5, 3, rfl, p5, by omega, by decide, by decide, fun H6 a6 r6 o k6 p6 l6 o0 o1 => ⟨_, _, _, rfl, ?_⟩⟩
      obtain ⟨j, rfl⟩ := Int.eq_ofNat_of_zero_le e0
      have kk := (k4.trans k5).trans k6
      have hd6 := kk _ _ dp h3
      have kp6 := k3.trans kk
      clear k4 k5 k6 p4 p5 k3 p3 kk
      generalize hM : (if (if decide (V.int (j : Int) = V.int 3) = true then (1 : Int) else 0) > m then (if decide (V.int (j : Int) = V.int 3) = true then (1 : Int) else 0) else m) = M
      have rM : 0 ≤ M ∧ M ≤ 99 ∧ (j = 3 → 1 ≤ M) := by
        by_cases c : decide (V.int (j : Int) = V.int 3) = true
        · rw [if_pos c] at hM
          split at hM <;> omega
        · rw [if_neg c] at hM
          have c3 : j ≠ 3 := fun z => c (by rw [z]; rfl)
          split at hM <;> omega
      obtain ⟨y, ms, c, hy, wy, hc, hcut, pt⟩ := drawn_unit (j := j) (n := M) (o := o) (by omega) rM.1 rM.2.1 o0 (by omega) rM.2.2
      have few2 := pt.few
      have two := pt.two
      refine ⟨(by decide : (6 : Nat) ≤ sizeLine), fun w6 n6 _ => ⟨_, rfl, ix_sq (.inr (SqL.of upd_same)) (atI_nat hy) ?_⟩⟩
      have s7 := same_new (o := .lst (units6.map V.str)) n6
      have e7 : upd H6 w6 (.lst [.str "journal", .str "block", .str "page", .str "cell", .str "bucket", .str "parity"]) = upd H6 w6 (.lst (units6.map V.str)) := rfl
      rw [e7]
      generalize upd H6 w6 (.lst (units6.map V.str)) = H7 at s7 ⊢
      refine ⟨_, rfl, ⟨_, rfl, .inl ⟨rfl, .inr ⟨_, rfl, _, _, rfl, _, rfl, (by decide : (2 : Nat) ≤ sizeLine), fun l2 nl2 _ => ?_⟩⟩⟩⟩
      rw [hM]
      have s8 := s7.trans (same_new (o := .lst [.int M, .int o]) nl2)
      have h8 : upd H7 l2 (.lst [.int M, .int o]) l2 = some (.lst [.int M, .int o]) := upd_same
      generalize upd H7 l2 (.lst [.int M, .int o]) = H8 at s8 h8 ⊢
      refine ⟨(by decide : (6 : Nat) ≤ sizeLine), fun l6 nl6 _ => ⟨_, rfl, ix_sq (.inr (SqL.of upd_same)) (atI_nat hc) ⟨_, rfl, l2, _, rfl, SqL.of (same_new nl6 _ _ h8), fun l3 nl3 => ?_⟩⟩⟩
      rw [hcut]
      have s9 := (s8.trans (same_new (o := .lst [.int 0, .int 1, .int 1, .int 2, .int 1, .int 2]) nl6)).trans (same_new (o := .lst (ms.map V.int)) nl3)
      have h9 : upd (upd H8 l6 (.lst [.int 0, .int 1, .int 1, .int 2, .int 1, .int 2])) l3 (.lst (ms.map V.int)) l3 = some (.lst (ms.map V.int)) := upd_same
      generalize upd (upd H8 l6 (.lst [.int 0, .int 1, .int 1, .int 2, .int 1, .int 2])) l3 (.lst (ms.map V.int)) = H9 at s9 h9 ⊢
      have at0 : atI (ms.map V.int ++ [.int 0, .int 0]) (0 : Int) = some (.int (firstOf ms)) := atI_nat (j := 0) (by
        match ms, few2 with
        | [], _ => rfl
        | [a], _ => rfl
        | [a, b], _ => rfl)
      have at1 : atI (ms.map V.int ++ [.int 0, .int 0]) (1 : Int) = some (.int (secondOf ms)) := atI_nat (j := 1) (by
        match ms, few2 with
        | [], _ => rfl
        | [a], _ => rfl
        | [a, b], _ => rfl)
      have e6 : (10 : Int) ^ (6 : Int).toNat = 1000000 := by decide
      have lms : (ms.map V.int).length + [V.int 0, V.int 0].length ≤ sizeLine := by rw [List.length_map, sizeLine_eq]; show ms.length + 2 ≤ _; omega
      refine ⟨_, rfl, _, _, rfl, rfl, ⟨by decide, by decide, by decide⟩, .inl ⟨_, _, rfl, rfl, cmulL (by omega) (by omega), _, rfl, (by decide : (2 : Nat) ≤ sizeLine), fun z nz _ => .inr (.inl ⟨l3, z, _, _, rfl, rfl, same_new nz _ _ h9, upd_same, lms, fun q nq => ?_⟩)⟩⟩
      have s10 := (s9.trans (same_new (o := .lst [.int 0, .int 0]) nz)).trans (same_new (o := .lst (ms.map V.int ++ [.int 0, .int 0])) nq)
      have h10 := same_new (o := .lst (ms.map V.int ++ [.int 0, .int 0])) nq _ _ (same_new (o := .lst [.int 0, .int 0]) nz _ _ h9)
      have hq : upd (upd H9 z (.lst [.int 0, .int 0])) q (.lst (ms.map V.int ++ [.int 0, .int 0])) q = some (.lst (ms.map V.int ++ [.int 0, .int 0])) := upd_same
      generalize upd (upd H9 z (.lst [.int 0, .int 0])) q (.lst (ms.map V.int ++ [.int 0, .int 0])) = H10 at s10 h10 hq ⊢
      refine ix_sq (.inr (SqL.of hq)) at0 (.inl ⟨_, _, rfl, rfl, cmulL (by omega) (by omega), .inl ⟨_, _, rfl, rfl, _, rfl, (by decide : (2 : Nat) ≤ sizeLine), fun z2 nz2 _ => .inr (.inl ⟨l3, z2, _, _, rfl, rfl, same_new nz2 _ _ h10, upd_same, lms, fun q2 nq2 => ix_sq (.inr (SqL.of upd_same)) at1 (.inl ⟨_, _, rfl, rfl, ?_⟩)⟩)⟩⟩)
      have s11 := (s10.trans (same_new (o := .lst [.int 0, .int 0]) nz2)).trans (same_new (o := .lst (ms.map V.int ++ [.int 0, .int 0])) nq2)
      have h11 := same_new (o := .lst (ms.map V.int ++ [.int 0, .int 0])) nq2 _ _ (same_new (o := .lst [.int 0, .int 0]) nz2 _ _ h10)
      generalize upd (upd H10 z2 (.lst [.int 0, .int 0])) q2 (.lst (ms.map V.int ++ [.int 0, .int 0])) = H11 at s11 h11 ⊢
      have er : (j : Int) * (10 : Int) ^ (6 : Int).toNat + firstOf ms * 1000 + secondOf ms = lawRank y ms := by
        rw [e6]
        unfold lawRank
        rw [wy]
      have iv : DInv (putK kvs (kInt ((j : Int) * (10 : Int) ^ (6 : Int).toNat + firstOf ms * 1000 + secondOf ms)) (.str (txtP (y, ms)))) := by
        rw [er]
        exact inv.put (u := (y, ms)) pt
      refine ⟨rfl, _, rfl, (by decide : (1 : Nat) ≤ sizeLine), fun q1 n1 _ => ?_⟩
      have s12 := s11.trans (same_new (o := .lst [.str y]) n1)
      have h12 := same_new (o := .lst [.str y]) n1 _ _ h11
      refine strs_list (l := l3) (ns := ms) (fun R h => ⟨_, rfl, l3, rfl, ⟨_, SqL.of h12⟩, h⟩) (by show 9 < 10; decide) h12 (by omega) (fun n hn => (small99 (pt.rng n hn).1 (pt.rng n hn).2).1) fun H13 D s13 hD => ?_
      refine .inr (.inl ⟨q1, D, _, _, rfl, rfl, s13 _ _ upd_same, hD, ?_, fun q3 n3 => ?_⟩)
      · rw [List.length_map, sizeLine_eq]
        show 1 + ms.length ≤ _
        omega
      have e : [V.str y] ++ (ms.map fun n => V.str (toString n)) = (y :: ms.map fun n => (toString n : Str)).map V.str := by
        rw [List.map_cons, List.map_map]
        rfl
      rw [e]
      have s14 := (s12.trans s13).trans (same_new (o := .lst ((y :: ms.map fun n => (toString n : Str)).map V.str)) n3)
      have h14 := s14 _ _ hd6
      have p14 := p6.same s14
      have kp14 := kp6.trans (Keep.of s14)
      refine ⟨_, q3, _, rfl, rfl, .inl (SqL.of upd_same), unit_size (Nat.le_trans (word_text pt.word).1 (by decide)) few2 pt.rng, ?_⟩
      generalize upd H13 q3 (.lst ((y :: ms.map fun n => (toString n : Str)).map V.str)) = H14 at s14 h14 p14 kp14 ⊢
      refine ⟨_, rfl, _, rfl, dd, _, rfl, DPut.k (k := kInt ((j : Int) * (10 : Int) ^ (6 : Int).toNat + firstOf ms * 1000 + secondOf ms)) h14 (by rw [sizeLine_eq]; omega), ?_⟩
      refine ⟨_, _, _, _, _, _, _, _, a6, r6, _, rfl, fun b ob nb hb => ?_, ⟨?_, ?_, p14.ne, p14.few, p14.from0, p14.rest0⟩, by omega, upd_same, Nat.le_trans (length_putK _ _ _) (by omega), iv⟩
      · rw [upd_ne (ne_of_none hb nd)]
        exact kp14 b ob nb hb
      · rw [upd_ne dp.symm]
        exact p14.pen
      · rw [upd_ne ldd]
        exact p14.nums
    · rintro σ' H3 ⟨x2, x3, x4, x5, x6, x7, x8, x9, a3, r3, kvs, rfl, k3, p3, l3, h3, few, inv⟩
      have lk : kvs.length ≤ 5 := by omega
      obtain ⟨rs, ek⟩ := ints_of (ks := kvs.map (·.1)) fun k' hk' => by
        rw [mem_keys] at hk'
        obtain ⟨v, hv⟩ := Option.isSome_iff_exists.mp hk'
        obtain ⟨u, _, e, _⟩ := inv.each _ _ hv
        exact ⟨_, e⟩
      have nr : rs.Nodup := by
        have z := inv.nd
        rw [ek] at z
        exact List.Pairwise.of_map kInt (fun a b h e => h (congrArg _ e)) z
      have each : ∀ r, r ∈ rs → ∃ u : PU, Parts u.1 u.2 ∧ r = lawRank u.1 u.2 ∧ valV kvs (kInt r) = some (.str (txtP u)) := fun r hr => by
        have m : kInt r ∈ kvs.map (·.1) := by rw [ek]; exact List.mem_map.mpr ⟨r, hr, rfl⟩
        rw [mem_keys] at m
        obtain ⟨v, hv⟩ := Option.isSome_iff_exists.mp m
        obtain ⟨u, pu, e, ev⟩ := inv.each _ _ hv
        exact ⟨u, pu, Sum.inl.inj e, by rw [hv, ev]⟩
      obtain ⟨g, hg⟩ : ∃ g : Int → PU, ∀ r, r ∈ rs → Parts (g r).1 (g r).2 ∧ r = lawRank (g r).1 (g r).2 ∧ valV kvs (kInt r) = some (.str (txtP (g r))) := by
        refine ⟨fun r => if h : r ∈ rs then Classical.choose (each r h) else (Str.empty, []), fun r hr => ?_⟩
        simp only [dif_pos hr]
        exact Classical.choose_spec (each r hr)
      refine sortL_ok (f := fun r => .str (txtP (g r))) rfl (by show 5 < 10; decide) (by decide) h3 (by omega) ek (fun r hr => (hg r hr).2.2) fun H4 q' rs' perm srt s4 hq' => ?_
      have mem' : ∀ r, r ∈ rs' → r ∈ rs := fun r hr => perm.mem_iff.mp hr
      have np : q' ≠ p := fun z => by
        have y := s4 _ _ p3.pen
        rw [← z, hq'] at y
        have y2 := HO.lst.inj (Option.some.inj y)
        cases rs' with
        | nil => cases y2
        | cons r0 rs0 => cases (List.cons.inj y2).1
      have all : ∀ u : PU, u ∈ rs'.map g → Parts u.1 u.2 := fun u hu' => by
        obtain ⟨r, hr, rfl⟩ := List.mem_map.mp hu'
        exact (hg r (mem' r hr)).1
      refine k H4 a3 r3 q' (rs'.map g) (k3.trans (Keep.of s4)) (p3.same s4) (by omega) (by rw [List.map_map, List.map_map]; exact hq') np ?_ all ?_
      · rw [List.length_map, perm.length_eq]
        have z := congrArg List.length ek
        rw [List.length_map, List.length_map] at z
        omega
      · refine Chain.of (fun u hu' => rank_pos (all u hu')) ?_
        rw [List.pairwise_map]
        refine List.Pairwise.imp_of_mem (fun {a b} ha hb z => ?_) (srt.and (perm.symm.nodup nr))
        have pa := hg a (mem' a ha)
        have pb := hg b (mem' b hb)
        refine (law_rank_lt pa.1 pb.1).mp ?_
        rw [← pa.2.1, ← pb.2.1]
        have z1 := z.1
        have z2 := z.2
        omega
end
end L2.K32
set_option Elab.async false
set_option linter.all false
set_option maxRecDepth 100000
set_option maxHeartbeats 4000000
/-! A row of words read: by the program, by the law. -/
namespace L2.K32
open PySem PySem.Spec PyProof.Rows L2.RV
def qRow : Str := "_law_row_right.<locals>.<lambda>"
theorem joinL_len (S : List Nat) (n : Nat) : ∀ {ls : List (List Nat)}, (∀ l, l ∈ ls → l.length ≤ n) → (TL.joinL S ls).length ≤ ls.length * (n + S.length)
  | [], _ => Nat.zero_le _
  | [p], h => by
    show p.length ≤ _
    have z := h p List.mem_cons_self
    rw [List.length_singleton]
    omega
  | p :: q :: r, h => by
    have ih := joinL_len S n (ls := q :: r) fun l hl => h l (List.mem_cons_of_mem _ hl)
    have z := h p List.mem_cons_self
    show (p ++ (S ++ TL.joinL S (q :: r))).length ≤ _
    rw [List.length_append, List.length_append]
    rw [List.length_cons (as := q :: r), Nat.succ_mul]
    omega
theorem line_len {ws : List Str} {m : Nat} (few : ws.length ≤ m) (h : ∀ x, x ∈ ws → x.length ≤ 50) : (Txt.join " " ws).length ≤ m * 51 := by
  rw [TL.len_tl]
  rw [TL.join_eq, TL.tl_join]
  refine Nat.le_trans (joinL_len _ 50 fun l hl => ?_) ?_
  · obtain ⟨x, hx, rfl⟩ := List.mem_map.mp hl
    rw [← TL.len_tl]
    exact h x hx
  · have s1 : (TL.tl " ").length = 1 := by decide +kernel
    rw [List.length_map, s1]
    exact Nat.mul_le_mul_right _ few
theorem words_size {ws : List Str} {m : Nat} (few : ws.length ≤ m) (hm : m ≤ 1000) (h : ∀ x, x ∈ ws → x.length ≤ 50) : (ws.map (·.length)).sum + ws.length * (" " : Str).length ≤ 16777216 := by
  have sp : (" " : Str).length = 1 := by decide +kernel
  have all : ∀ ms : List Str, (∀ x, x ∈ ms → x.length ≤ 50) → (ms.map (·.length)).sum ≤ 50 * ms.length := by
    intro ms
    induction ms with
    | nil => intro _; exact Nat.le_refl _
    | cons x L ih =>
      intro k
      have a := k x List.mem_cons_self
      have b := ih fun y hy => k y (List.mem_cons_of_mem _ hy)
      rw [List.map_cons, List.sum_cons, List.length_cons]
      omega
  have r := all ws h
  rw [sp]
  omega
/-- the units' texts are in order and without a second one -/
theorem chain_ord {us : List PU} (p : ∀ u, u ∈ us → Parts u.1 u.2) (ch : Chain (-1) us) : (us.map txtP).Pairwise fun a b => rankU a < rankU b := by
  rw [List.pairwise_map]
  refine List.Pairwise.imp_of_mem (fun {a b} ha hb z => ?_) (Chain.pair ch).2
  show rankU (textOf a.1 a.2) < rankU (textOf b.1 b.2)
  rw [(p a ha).rankU, (p b hb).rankU]
  exact z
theorem ord_same {us : List PU} {L : List Str} (p : ∀ u, u ∈ us → Parts u.1 u.2) (ch : Chain (-1) us) (o : IsOrd L ((us.map txtP).map V.str)) : L = us.map txtP := by
  refine ord_unique o.inc (chain_ord p ch) fun x => ?_
  rw [o.mem]
  constructor
  · intro h
    obtain ⟨y, hy, e⟩ := List.mem_map.mp h
    cases e
    exact hy
  · intro h
    exact List.mem_map.mpr ⟨x, h, rfl⟩
theorem units_words : ∀ (us : List PU), 2 * us.length ≤ (wordsOf us).length + 1
  | [] => by decide
  | u :: us => by
    have all : ∀ vs : List PU, 2 * vs.length ≤ (restW vs).length := by
      intro vs
      induction vs with
      | nil => exact Nat.le_refl _
      | cons v vs ih =>
        have e : restW (v :: vs) = [("," : Str)] ++ (segP v ++ restW vs) := rfl
        have s : (segP v).length = 1 + v.2.length := seg_len v.1 v.2
        rw [e, List.length_append, List.length_append, List.length_cons, s, List.length_singleton]
        omega
    have z := all us
    have e : wordsOf (u :: us) = segP u ++ restW us := rfl
    have s : (segP u).length = 1 + u.2.length := seg_len u.1 u.2
    rw [e, List.length_cons, List.length_append, s]
    omega
theorem firstNo_texts {us : List PU} (p : ∀ u, u ∈ us → Parts u.1 u.2) : firstNo ((us.map txtP).map V.str) = none := by
  refine firstNo_none fun x hx => ?_
  obtain ⟨y, hy, rfl⟩ := List.mem_map.mp hx
  obtain ⟨u, hu, rfl⟩ := List.mem_map.mp hy
  exact (p u hu).unitV
theorem seqk_tup {K : PySem.W.Frag} {H : Hp} {a : Addr} {xs : List V} (h : H a = some (.tup xs)) : SeqK K H (.ref a) true :=
  ⟨"tuple", .base (.tup h), kitAny_cons (kit_ty (by decide +kernel : kitB "tuple" "list" = some false)) (fun _ => kitAny_cons (kit_ty (by decide +kernel : kitB "tuple" "tuple" = some true)) (fun z => nomatch z) fun _ => rfl) (fun z => nomatch z)⟩
theorem seqk_lst {K : PySem.W.Frag} {H : Hp} {a : Addr} {xs : List V} (h : H a = some (.lst xs)) : SeqK K H (.ref a) true :=
  ⟨"list", .base (.lst h), kitAny_cons (kit_ty (by decide +kernel : kitB "list" "list" = some true)) (fun z => nomatch z) (fun _ => rfl)⟩
theorem texts_tup {K : PySem.W.Frag} {H : Hp} {a : Addr} {us : List PU} (h : H a = some (.tup ((us.map txtP).map V.str))) (few : us.length ≤ 60) (p : ∀ u, u ∈ us → Parts u.1 u.2) : SeqV K H a ((us.map txtP).map V.str) := by
  refine ⟨.inl (SqT.of h), fun H' s => seqk_tup (s _ _ h), by rw [List.length_map, List.length_map]; exact few, fun u hu H' _ => ?_, fun x hx => ?_⟩
  · obtain ⟨y, _, rfl⟩ := List.mem_map.mp hu
    exact kinds_str y
  · obtain ⟨y, hy, e⟩ := List.mem_map.mp hx
    cases e
    obtain ⟨u, hu, rfl⟩ := List.mem_map.mp hy
    exact (p u hu).len
theorem texts_lst {K : PySem.W.Frag} {H : Hp} {a : Addr} {L : List Str} (h : H a = some (.lst (L.map V.str))) (few : L.length ≤ 60) (p : ∀ x, x ∈ L → x.length ≤ 50) : SeqV K H a (L.map V.str) := by
  refine ⟨.inr (SqL.of h), fun H' s => seqk_lst (s _ _ h), by rw [List.length_map]; exact few, fun u hu H' _ => ?_, fun x hx => ?_⟩
  · obtain ⟨y, _, rfl⟩ := List.mem_map.mp hu
    exact kinds_str y
  · obtain ⟨y, hy, e⟩ := List.mem_map.mp hx
    cases e
    exact p _ hy
theorem shaped_by {d : PyData} (h : d.canLay0 = true) (k : d.depth ≤ 64) : SeqAt.shaped d = true := by
  unfold SeqAt.shaped
  rw [h, decide_eq_true k]
  rfl
theorem shaped_heard (j : Int) : SeqAt.shaped (.tuple [.str "text", .int 0, .int j]) = true := by
  have z : PyData.strOk "text" = true := by decide +kernel
  refine shaped_by ?_ ?_
  · simp only [PyData.canLay0, PyData.canLayAll0, z, Bool.and_self]
  · simp only [PyData.depth, PyData.depthAll]
    decide
/-- _law_row_right(words) -/
def spLRowRight (TS : List (Addr × Str)) : Sp := fun vs H Q _ => ∃ (q : Addr) (ws : List Str), vs = [.ref q] ∧ RowAt H q ws 100 ∧ (∀ x, x ∈ ws → (32 : Nat) ∉ TL.tl x) ∧ LamX.Tabs TS H ∧ ∀ H', LamX.ExtN H H' → LamX.Tabs TS H' → Q (.bl true) H'
section
variable {P : Program} {w : World} {K : PySem.W.Frag} {mg : Str → Option Value} {base : Heap} {fd : FuncData}
theorem ok_law_row_right {TS : List (Addr × Str)} {PT : Addr} (T : Top w K mg) (fL : PySem.W.findIn K (.ref (ca K 4)) "line" = some none) (fW : PySem.W.findIn K (.ref (ca K 4)) "word" = some none) (D_law_wrong : Def P w K mg base "_law_wrong" 2 ["_law_words"] spLWrong) (D_read_units : DefX (L2.CX P w) P w K mg base "read_units" 10 ["text"] (spRead K)) (D_units_text : DefX (L2.CX P w) P w K mg base "units_text" 8 ["units"] (spUnitsText K))
    (L_law_read_heard : LamD K mg "_law_read_heard" "_law_ask" s_law_read_heard) (TB : LamX.TabB base mg (He.codeOf K ("_law_row_right", none)) PT) (hm : (PT, qRow) ∈ TS) (hq : ∀ p ∈ TS, p.1 = PT → p.2 = qRow) (F : Fn K "_law_row_right" s_law_row_right fd) : FnG P w K mg base CX0 13 (He.ga K "_law_row_right") fd ["_law_words"] (spLRowRight TS) := by
  refine okGC (p := ("_law_row_right", none)) F sc_law_row_right (fun vs H Q E h => ?_) (fun A outer s H vs Q E hgu hr h => ?_)
  · obtain ⟨q, ws, rfl, _⟩ := h
    rfl
  · obtain ⟨q, ws, rfl, row, plain, tabs, k⟩ := h
    have hu := hr.units
    refine ⟨_, PSs.nox (pss_cons (ps_asg (pe_tup (pa_cons (pe_bm PySem.F.plainAttrs_str PySem.F.slot_str_join PySem.F.type_str_join mt_join pe_str (pa_cons (pv 0) pa_nil)) (pa_cons (pe_callD D_law_wrong (hr.mono (by decide)) rfl (pa_cons (pv 0) pa_nil)) pa_nil))) (pg_tup rfl (pgs_cons (pg_name (i := 2) sc_law_row_right.nd rfl (by first | exact Or.inl rfl | exact Or.inr rfl)) (pgs_cons (pg_name (i := 3) sc_law_row_right.nd rfl (by first | exact Or.inl rfl | exact Or.inr rfl)) pgs_nil))))
      (pss_cons (ps_set (i := 1) sc_law_row_right.nd rfl (by first | exact Or.inl rfl | exact Or.inr rfl) (pe_lamX (k := 10) L_law_read_heard rfl sc_law_read_heard rfl (Or.inl rfl) (fun g cdg => read_heard_gives T fL fW hgu (hr.mono (by decide))) TB rfl hm hq (hr.mono (by decide)) (LamX.lamS_by (sc := defScope s_law_row_right) (by decide +kernel)) rfl (fun _ _ _ _ _ => rfl) (fun A2 o2 s2 H2 E2 f2 c2 hr2 => (pe_callX D_read_units (hr2.mono (by decide)) rfl (passes_call (takes_of rfl rfl rfl rfl) (fun _ _ _ _ h => h)) (pa_cons (pv 2) pa_nil)))))
      (pss_cons (ps_if (pt_cmpR op_notN (pv 3) pe_non (nomark _)) (pss_one (ps_ret (pe_cmpR (op_same hu) (pv 1) (pe_tup (pa_cons pe_str (pa_cons pe_int (pa_cons (pv 3) pa_nil)))) (nomark _)))) pss_nil)
      (pss_one (ps_ret (pe_and (pe_callB call_isi rfl T.n_isinstance (by decide +kernel) (pa_cons (pv 1) (pa_cons (pe_bltn (v := .ty "list") (u := .type "list") rfl T.n_list (by decide +kernel) rfl) pa_nil))) (pe_and (pe_callB call_isi rfl T.n_isinstance (by decide +kernel) (pa_cons (pe_ix ix_seq (pv 1) pe_int (fun _ _ => rfl)) (pa_cons (pe_bltn (v := .ty "tuple") (u := .type "tuple") rfl T.n_tuple (by decide +kernel) rfl) pa_nil))) (pe_one (pe_cmpR (op_same hu) (pe_callX D_units_text (hr.mono (by decide)) rfl pass_E0 (pa_cons (pe_ix ix_seq (pv 1) pe_int (fun _ _ => rfl)) pa_nil)) (pv 2) (nomark _)))))))))), ?_⟩
    have hq0 := row.at_
    have size := words_size row.few (by decide) row.short
    have hsp := split_words row.ne plain
    have len := line_len row.few row.short
    have wr := wrong_read row.ne
    have two : (2 : Nat) ≤ sizeLine := by decide
    refine ⟨rfl, _, rfl, _, q, ws, rfl, rfl, .inl (SqL.of hq0), size, ?_⟩
    cases hR : readR ws with
    | error j =>
      have hw : wV (wrongR ws) = .int j := by rw [wr, hR]; rfl
      refine ⟨_, rfl, q, ws, rfl, ⟨row.at_, row.ne, by have := row.few; omega, row.short, row.ok⟩, fun H1 s1 => ?_⟩
      rw [hw]
      refine ⟨two, fun t nt => ⟨t, _, rfl, SqT.of upd_same, rfl, _, _, rfl, _, _, rfl, rfl, ?_⟩⟩
      have s2 := s1.trans (same_new (o := .tup [.str (Txt.join " " ws), .int j]) nt)
      generalize upd H1 t (.tup [.str (Txt.join " " ws), .int j]) = H2 at s2 ⊢
      refine ⟨tabs_same tabs s2, fun H3 e3 t3 H4 R s4 hRR => ⟨_, rfl, _, rfl, fun H' _ => kinds_str _, by omega, ?_⟩⟩
      rw [hsp]
      refine ⟨?_, row.short, ?_⟩
      · have := row.few
        omega
      rw [hR]
      refine fun H5 d s5 ex => ⟨d, rfl, rfl, _, _, ex, fun H6 t6 s6 ht => ?_⟩
      have t6' := tabs_same t3 (s4.trans (s5.trans s6))
      have e6 := (ext_same s2).trans (e3.trans (ext_same (s4.trans (s5.trans s6))))
      refine ⟨_, rfl, rfl, _, rfl, ite2 (fun _ => ?_) (fun c => absurd rfl c)⟩
      refine ⟨_, rfl, _, rfl, (by decide : (3 : Nat) ≤ sizeLine), fun t7 n7 => .inr ⟨.tuple [.str "text", .int 0, .int j], .tuple [.str "text", .int 0, .int j], .tup (SqT.of (same_new n7 _ _ ht)) (.cons (.str _) (.cons (.int _) (.cons (.int _) .nil))), .tup (SqT.of upd_same) (.cons (.str _) (.cons (.int _) (.cons (.int _) .nil))), shaped_heard _, shaped_heard _, ?_⟩⟩
      rw [same_data (shaped_heard j)]
      exact k _ (e6.trans (ext_same (same_new n7))) (tabs_same t6' (same_new n7))
    | ok L =>
      have hw : wV (wrongR ws) = .non := by rw [wr, hR]; rfl
      obtain ⟨us, rfl, pu, ch, ew⟩ := read_ok row.short hR
      refine ⟨_, rfl, q, ws, rfl, ⟨row.at_, row.ne, by have := row.few; omega, row.short, row.ok⟩, fun H1 s1 => ?_⟩
      rw [hw]
      refine ⟨two, fun t nt => ⟨t, _, rfl, SqT.of upd_same, rfl, _, _, rfl, _, _, rfl, rfl, ?_⟩⟩
      have s2 := s1.trans (same_new (o := .tup [.str (Txt.join " " ws), .non]) nt)
      generalize upd H1 t (.tup [.str (Txt.join " " ws), .non]) = H2 at s2 ⊢
      refine ⟨tabs_same tabs s2, fun H3 e3 t3 H4 R s4 hRR => ⟨_, rfl, _, rfl, fun H' _ => kinds_str _, by omega, ?_⟩⟩
      rw [hsp]
      refine ⟨?_, row.short, ?_⟩
      · have := row.few
        omega
      rw [hR]
      refine fun H5 p5 s5 hp => hRR _ _ (fun r nr => ?_)
      have s6 := same_new (o := .lst [.ref p5]) nr
      have hp6 := s6 _ _ hp
      have hr6 : upd H5 r (.lst [.ref p5]) r = some (.lst [.ref p5]) := upd_same
      generalize upd H5 r (.lst [.ref p5]) = H6 at s6 hp6 hr6 ⊢
      have t6' := tabs_same t3 (s4.trans (s5.trans s6))
      have e6 := (ext_same s2).trans (e3.trans (ext_same (s4.trans (s5.trans s6))))
      refine ⟨_, rfl, rfl, _, rfl, ite2 (fun c => absurd c (by decide)) (fun _ => ?_)⟩
      refine ⟨_, rfl, _, _, _, _, _, rfl, .ty "list", .base (.lst hr6), kit_ty (by decide +kernel : kitB "list" "list" = some true), _, rfl, ?_⟩
      refine ite2 (fun _ => ?_) (fun c => absurd rfl c)
      refine ⟨_, rfl, ix_sq (.inr (SqL.of hr6)) (atI_nat (j := 0) rfl) ⟨_, _, _, _, _, rfl, .ty "tuple", .base (.tup hp6), kit_ty (by decide +kernel : kitB "tuple" "tuple" = some true), _, rfl, ?_⟩⟩
      refine ite2 (fun _ => ?_) (fun c => absurd rfl c)
      have few : us.length ≤ 60 := by
        have z := units_words us
        rw [← ew] at z
        have := row.few
        omega
      refine ⟨_, rfl, ix_sq (.inr (SqL.of hr6)) (atI_nat (j := 0) rfl) ⟨_, rfl, .inl ⟨p5, _, rfl, texts_tup hp6 few pu, ?_⟩⟩⟩
      unfold OrdOkT
      rw [firstNo_texts pu]
      intro L' H7 ord s7
      have el : unitsLine L' = Txt.join " " ws := by rw [ord_same pu ch ord, ← line_of, ← ew]
      rw [el]
      refine ⟨_, rfl, .inl ⟨rfl, ?_⟩⟩
      rw [decide_eq_true rfl]
      exact k _ (e6.trans (ext_same s7)) (tabs_same t6' s7)
end
end L2.K32
set_option Elab.async false
set_option linter.all false
set_option maxRecDepth 100000
set_option maxHeartbeats 4000000
/-! Wrong parts make no unit. -/
namespace L2.K32
open PySem PySem.Spec PyProof.Rows L2.RV
/-- a thing that is no unit: a scalar, a pair of brackets, one scalar in a tuple -/
inductive Odd (H : Hp) (p : Addr) : V → PyData → Prop
  | non : Odd H p .non .none
  | bl (b : Bool) : Odd H p (.bl b) (.bool b)
  | int (n : Int) : Odd H p (.int n) (.int n)
  | str (x : Str) : x.length ≤ 50 → Odd H p (.str x) (.str x)
  | ts {a : Addr} (x : Str) : H a = some (.tup [.str x]) → a ≠ p → Odd H p (.ref a) (.tuple [.str x])
  | ti {a : Addr} (n : Int) : H a = some (.tup [.int n]) → a ≠ p → Odd H p (.ref a) (.tuple [.int n])
  | l0 {a : Addr} : H a = some (.lst []) → a ≠ p → a ≠ sysModules → Odd H p (.ref a) (.list [])
  | l1 {a : Addr} (x : Str) : H a = some (.lst [.str x]) → a ≠ p → a ≠ sysModules → Odd H p (.ref a) (.list [.str x])
  | d0 {a : Addr} : H a = some (.dK []) → a ≠ p → Odd H p (.ref a) (.dict [])
theorem Odd.keepN {H H' : Hp} {p : Addr} {v : V} {d : PyData} (o : Odd H p v d) (k : KeepN p H H') : Odd H' p v d := by
  cases o with
  | non => exact .non
  | bl b => exact .bl b
  | int n => exact .int n
  | str x l => exact .str x l
  | ts x h n => exact .ts x (k _ _ n h fun _ z => nomatch z) n
  | ti x h n => exact .ti x (k _ _ n h fun _ z => nomatch z) n
  | l0 h n m => exact .l0 (k _ _ n h fun _ z => nomatch z) n m
  | l1 x h n m => exact .l1 x (k _ _ n h fun _ z => nomatch z) n m
  | d0 h n => exact .d0 (k _ _ n h fun _ z => nomatch z) n
theorem Odd.ext {H H' : Hp} {p : Addr} {v : V} {d : PyData} (o : Odd H p v d) (k : LamX.ExtN H H') : Odd H' p v d := o.keepN (.ofExt k)
theorem Odd.same {H H' : Hp} {p : Addr} {v : V} {d : PyData} (o : Odd H p v d) (k : Same H H') : Odd H' p v d := o.keepN (.same k)
/-- all but tables stands beside q -/
def NewN (H : Hp) (q : Addr) : Prop := ∀ b o, H b = some o → (∀ ps, o ≠ .tbl ps) → b ≠ q
/-- the same beside a place that is new -/
theorem Odd.at_ {H H' : Hp} {p q : Addr} {v : V} {d : PyData} (o : Odd H p v d) (n : NewN H q) (k : KeepN q H H') : Odd H' q v d := by
  cases o with
  | non => exact .non
  | bl b => exact .bl b
  | int n => exact .int n
  | str x l => exact .str x l
  | ts x h _ => exact .ts x (k _ _ (n _ _ h fun _ z => nomatch z) h fun _ z => nomatch z) (n _ _ h fun _ z => nomatch z)
  | ti x h _ => exact .ti x (k _ _ (n _ _ h fun _ z => nomatch z) h fun _ z => nomatch z) (n _ _ h fun _ z => nomatch z)
  | l0 h _ m => exact .l0 (k _ _ (n _ _ h fun _ z => nomatch z) h fun _ z => nomatch z) (n _ _ h fun _ z => nomatch z) m
  | l1 x h _ m => exact .l1 x (k _ _ (n _ _ h fun _ z => nomatch z) h fun _ z => nomatch z) (n _ _ h fun _ z => nomatch z) m
  | d0 h _ => exact .d0 (k _ _ (n _ _ h fun _ z => nomatch z) h fun _ z => nomatch z) (n _ _ h fun _ z => nomatch z)
theorem Odd.kinds {K : PySem.W.Frag} {H : Hp} {p : Addr} {v : V} {d : PyData} (o : Odd H p v d) : Kinds K H v := by
  cases o with
  | non => exact kinds_non
  | bl b => exact kinds_bl b
  | int n => exact kinds_int n
  | str x l => exact kinds_str x
  | ts x h _ => exact kinds_tup h
  | ti x h _ => exact kinds_tup h
  | l0 h _ _ => exact kinds_lst h
  | l1 x h _ _ => exact kinds_lst h
  | d0 h _ => exact kinds_dct h
theorem Odd.rds {K : PySem.W.Frag} {H : Hp} {p : Addr} {v : V} {d : PyData} (o : Odd H p v d) : Rds K p H v d := by
  cases o with
  | non => exact rds_non
  | bl b => exact rds_bl b
  | int n => exact rds_int n
  | str x l => exact rds_str x
  | ts x h n => exact rds_tup h n (.cons (rds_str x) .nil)
  | ti x h n => exact rds_tup h n (.cons (rds_int x) .nil)
  | l0 h n m => exact rds_lst h m n .nil
  | l1 x h n m => exact rds_lst h m n (.cons (rds_str x) .nil)
  | d0 h n => exact rds_dct h n .nil
theorem Odd.short {H : Hp} {p : Addr} {v : V} {d : PyData} (o : Odd H p v d) : ∀ x, v = .str x → x.length ≤ 50 := by
  intro x e
  cases o with
  | str y l =>
    cases e
    exact l
  | _ => cases e
/-- its text can be told -/
def shwB (d : PyData) : Bool := d.showable && (decide (d.depth ≤ 60) && (decide (d.shown.length ≤ 200) && PyData.strOk d.shown))
theorem shw_of {d : PyData} (h : shwB d = true) : d.showable = true ∧ d.depth ≤ 60 ∧ d.shown.length ≤ 200 ∧ PyData.strOk d.shown = true := by
  unfold shwB at h
  rw [Bool.and_eq_true_iff, Bool.and_eq_true_iff, Bool.and_eq_true_iff] at h
  exact ⟨h.1, of_decide_eq_true h.2.1, of_decide_eq_true h.2.2.1, h.2.2.2⟩
theorem no_word {x : Str} (h : isWord x = false) (ws : List V) : unitOfR (.str x) ws = .unit (.str x) := by
  show (if isWord x = true then _ else _) = _
  rw [if_neg (by rw [h]; decide)]
/-- what is told of it -/
def dOf : V → PyData
  | .str x => .str x
  | .int n => .int n
  | _ => .none
def tellD (t : Str × V) : PyData := .tuple [.str t.1, dOf t.2]
/-- the tuples that were told, one by one -/
inductive Told (H : Hp) (q : Addr) : List V → List (Str × V) → Prop
  | nil : Told H q [] []
  | cons {t : Addr} {vs : List V} {x : Str} {v : V} {ts : List (Str × V)} : H t = some (.tup [.str x, v]) → t ≠ q → scal v v = true → Told H q vs ts → Told H q (.ref t :: vs) ((x, v) :: ts)
theorem Told.keepN {H H' : Hp} {q : Addr} (k : KeepN q H H') : ∀ {vs : List V} {ts : List (Str × V)}, Told H q vs ts → Told H' q vs ts
  | _, _, .nil => .nil
  | _, _, .cons h n s r => .cons (k _ _ n h fun _ z => nomatch z) n s (r.keepN k)
theorem Told.app {H : Hp} {q : Addr} {us : List V} {ss : List (Str × V)} (b : Told H q us ss) : ∀ {vs : List V} {ts : List (Str × V)}, Told H q vs ts → Told H q (vs ++ us) (ts ++ ss)
  | _, _, .nil => b
  | _, _, .cons h n s r => .cons h n s (Told.app b r)
/-- the values that are told are texts and integers -/
def tsOk : List (Str × V) → Bool
  | [] => true
  | (_, .str _) :: ts => tsOk ts
  | (_, .int _) :: ts => tsOk ts
  | _ => false
theorem Told.dp {K : PySem.W.Frag} {H : Hp} {q : Addr} : ∀ {vs : List V} {ts : List (Str × V)}, Told H q vs ts → tsOk ts = true → DpAll K H vs (ts.map tellD)
  | _, _, .nil, _ => .nil
  | _, _, .cons (v := .str y) h n s r, k => .cons (.tup (SqT.of h) (.cons (.str _) (.cons (.str _) .nil))) (r.dp k)
  | _, _, .cons (v := .int y) h n s r, k => .cons (.tup (SqT.of h) (.cons (.str _) (.cons (.int _) .nil))) (r.dp k)
/-- what unit_of is told as -/
def heardR (u : UO) (x : Str) : Str × V := match u with
  | .text _ => (("" : Str), V.non)
  | .unit _ => (("unit" : Str), V.str x)
  | .count n => (("count" : Str), V.int n)

theorem numV_out {x : Str} {i : Nat} {n : Int} (h : n < 0 ∨ 99 < n) : numV x i (.int n) = false := by
  show (decide ((if x = "cell" ∧ (i : Int) = 0 then (1 : Int) else 0) ≤ n) && decide (n ≤ 99)) = false
  rw [Bool.and_eq_false_iff]
  rcases h with h | h
  · refine .inl (decide_eq_false ?_)
    split <;> omega
  · exact .inr (decide_eq_false (by omega))
theorem unit_bad {x : Str} {ws : List V} {u : V} (w : isWord x = true) (h : firstBad x 0 ws = some u) : unitOfR (.str x) ws = .unit u := by
  show (if isWord x = true then (match firstBad x 0 ws with | some u => UO.unit u | none => if (ws.length : Int) = numOf x then .text (textOf x (ws.map intOf)) else .count ws.length) else .unit (.str x)) = _
  rw [if_pos w, h]
theorem unit_cnt {x : Str} {ws : List V} (w : isWord x = true) (h : firstBad x 0 ws = none) (n : ¬ (ws.length : Int) = numOf x) : unitOfR (.str x) ws = .count ws.length := by
  show (if isWord x = true then (match firstBad x 0 ws with | some u => UO.unit u | none => if (ws.length : Int) = numOf x then .text (textOf x (ws.map intOf)) else .count ws.length) else .unit (.str x)) = _
  rw [if_pos w, h]
  exact if_neg n
theorem firstBad_hd {x : Str} {i : Nat} {u : V} {us : List V} (h : numV x i u = false) : firstBad x i (u :: us) = some u := by
  show (if numV x i u = true then firstBad x (i + 1) us else some u) = some u
  rw [if_neg (by rw [h]; decide)]
theorem firstBad_tl {x : Str} {i : Nat} {u : V} {us : List V} (h : numV x i u = true) : firstBad x i (u :: us) = firstBad x (i + 1) us := by
  show (if numV x i u = true then firstBad x (i + 1) us else some u) = _
  rw [if_pos h]
/-- what is told can be compared -/
def layT : List (Str × V) → Bool
  | [] => true
  | (a, .str x) :: ts => PyData.strOk a && (PyData.strOk x && layT ts)
  | (a, .int _) :: ts => PyData.strOk a && layT ts
  | _ => false
theorem shaped_tell {ts : List (Str × V)} (h : layT ts = true) : SeqAt.shaped (.list (ts.map tellD)) = true := by
  have z : PyData.canLayAll0 (ts.map tellD) = true ∧ PyData.depthAll (ts.map tellD) ≤ 2 := by
    induction ts with
    | nil => exact ⟨by simp [PyData.canLayAll0], by simp [PyData.depthAll]⟩
    | cons t ts ih =>
      obtain ⟨a, v⟩ := t
      cases v with
      | str x =>
        have e : (PyData.strOk a && (PyData.strOk x && layT ts)) = true := h
        rw [Bool.and_eq_true_iff, Bool.and_eq_true_iff] at e
        obtain ⟨i1, i2⟩ := ih e.2.2
        refine ⟨?_, ?_⟩
        · simp [tellD, dOf, PyData.canLayAll0, PyData.canLay0, e.1, e.2.1, i1]
        · simp only [List.map_cons, tellD, dOf, PyData.depthAll, PyData.depth]
          omega
      | int x =>
        have e : (PyData.strOk a && layT ts) = true := h
        rw [Bool.and_eq_true_iff] at e
        obtain ⟨i1, i2⟩ := ih e.2
        refine ⟨?_, ?_⟩
        · simp [tellD, dOf, PyData.canLayAll0, PyData.canLay0, e.1, i1]
        · simp only [List.map_cons, tellD, dOf, PyData.depthAll, PyData.depth]
          omega
      | _ => cases h
  refine shaped_by ?_ ?_
  · simp only [PyData.canLay0]
    exact z.1
  · simp only [PyData.depth]
    have := z.2
    omega
theorem c30 : CPow 10 30 := ⟨by decide, by decide, by decide⟩

section
variable {K : PySem.W.Frag} {TS : List (Addr × Str)}
theorem told_ne {H H' : Hp} {q t : Addr} {xs : List V} {ys : List V} (hq : H q = some (.lst xs)) (e : LamX.ExtN H H') (ht : H' t = some (.tup ys)) : t ≠ q := fun z => by
  have w := e _ _ hq fun _ y => nomatch y
  rw [← z, ht] at w
  cases w
/-- what a call of unit_of is told as -/
def HearOk (K : PySem.W.Frag) (H : Hp) (u : UO) (t : Str × V) : Prop := match u with
  | .text _ => False
  | .unit v => ∃ p d, (∀ H', LamX.ExtN H H' → Rds K p H' v d) ∧ d.showable = true ∧ d.depth ≤ 60 ∧ d.shown.length ≤ 200 ∧ t = (("unit" : Str), V.str d.shown)
  | .count n => t = (("count" : Str), V.int n)
theorem heard_step {σ : L2.St} {H : Hp} {Q : VK} {ta : TA} {v : V} {ws : List V} {t : Str × V} (tabs : LamX.Tabs TS H) (hta : ∀ R H', LamX.ExtN H H' → R (v :: ws) H' → ta σ H' R) (kv : ∀ H', LamX.ExtN H H' → Kinds K H' v) (kw : ∀ u, u ∈ ws → ∀ H', LamX.ExtN H H' → Kinds K H' u)
    (few : ws.length ≤ 3) (sh : ∀ x, v = .str x → x.length ≤ 50) (ok : HearOk K H (unitOfR v ws) t) (k : ∀ H' a, LamX.ExtN H H' → LamX.Tabs TS H' → H' a = some (.tup [.str t.1, t.2]) → Q (.ref a) H') :
    LamX.tLam TS (THeard K) (fun E => tCall (spUnitOf K) [] E ta) σ H Q := by
  refine ⟨tabs, fun H1 e1 t1 H2 R s2 _ => ?_⟩
  have e2 := e1.trans (ext_same s2)
  refine hta _ _ e2 ?_
  refine ⟨v, ws, List.append_nil _, fun H' s => kv _ (e2.trans (ext_same s)), fun u hu H' s => kw u hu _ (e2.trans (ext_same s)), few, sh, ?_⟩
  generalize unitOfR v ws = uo at ok ⊢
  cases uo with
  | text s => exact ok.elim
  | unit u =>
    obtain ⟨p, d, rd, a1, a2, a3, rfl⟩ := ok
    exact fun H' x s ex => ⟨x, rfl, .inr ⟨rfl, u, p, d, ex, rd _ (e2.trans (ext_same s)), a1, a2, Nat.le_trans a3 (by decide), fun H4 a s4 ha => k _ a (e2.trans (ext_same (s.trans s4))) (tabs_same t1 (s2.trans (s.trans s4))) ha⟩⟩
  | count n =>
    cases ok
    exact fun H' x s ex => ⟨x, rfl, .inl ⟨rfl, .int n, ex, fun H4 a s4 ha => k _ a (e2.trans (ext_same (s.trans s4))) (tabs_same t1 (s2.trans (s.trans s4))) ha⟩⟩
/-- the list at q holds what was told so far -/
structure Log (TL : List (Addr × Str)) (H : Hp) (q : Addr) (ts : List (Str × V)) : Prop where
  ex : ∃ vs, H q = some (.lst vs) ∧ Told H q vs ts ∧ vs.length = ts.length
  tabs : LamX.Tabs TL H
/-- the call tells t, and changes nothing but tables -/
def Tells (TL : List (Addr × Str)) (te : TE) (σ : L2.St) (H : Hp) (t : Str × V) : Prop := ∀ Q : VK, (∀ H' a, LamX.ExtN H H' → LamX.Tabs TL H' → H' a = some (.tup [.str t.1, t.2]) → Q (.ref a) H') → te σ H Q
theorem log_new {TL : List (Addr × Str)} {te : TE} {σ : L2.St} {H : Hp} {Q : VK} {t : Str × V} (tl : Tells TL te σ H t) (sc : scal t.2 t.2 = true) (k : ∀ H' q, KeepN q H H' → NewN H q → Log TL H' q [t] → Q (.ref q) H') : tLstN (tCons te tNil) σ H Q := by
  refine tl _ fun H1 a e1 t1 ha => ⟨(by decide : (1 : Nat) ≤ sizeLine), fun q nq mq => ?_⟩
  have s2 := same_new (o := .lst [.ref a]) nq
  have aq : a ≠ q := ne_of_none ha nq
  have nH : NewN H q := fun b o hb no => ne_of_none (e1 b o hb no) nq
  exact k _ q (KeepN.ofExt (e1.trans (ext_same s2))) nH ⟨⟨_, upd_same, .cons (s2 _ _ ha) aq sc .nil, rfl⟩, tabs_same t1 s2⟩
theorem log_app {TL : List (Addr × Str)} {te : TE} {σ : L2.St} {H : Hp} {i : Nat} {q : Addr} {ts : List (Str × V)} {t : Str × V} {D : Ends} (vq : σ[i]? = some (some (.ref q))) (lg : Log TL H q ts) (few : ts.length < 100) (tl : Tells TL te σ H t) (sc : scal t.2 t.2 = true)
    (k : ∀ H', KeepN q H H' → Log TL H' q (ts ++ [t]) → D.nx σ H') : tDrop (tBM K "list" rAppend (tVar i) (tCons te tNil)) D σ H := by
  obtain ⟨⟨vs, hq, told, len⟩, tabs⟩ := lg
  refine ⟨_, vq, .inl ⟨rfl, vs, SqL.of hq⟩, tl _ fun H1 a e1 t1 ha => ?_⟩
  have hq1 := e1 _ _ hq fun _ z => nomatch z
  refine ⟨q, vs, .ref a, rfl, rfl, hq1, by rw [sizeLine_eq]; omega, ?_⟩
  have aq := told_ne hq e1 ha
  have k2 : Keep q H1 (upd H1 q (.lst (vs ++ [.ref a]))) := Keep.upd
  have kn := (KeepN.ofExt e1).trans k2.n
  exact k _ kn ⟨⟨_, upd_same, Told.app (.cons (k2 _ _ aq ha) aq sc .nil) (told.keepN kn), by rw [List.length_append, List.length_append, len]; rfl⟩, tabs_keep t1 hq1 k2⟩
/-- a pick from a list that is made there -/
theorem pick_by {σ : L2.St} {H : Hp} {Q : VK} {ta : TA} {i : Nat} {p l : Addr} {ns : List Int} {a r : Int} {C : Hp → V → Prop} (vp : σ[i]? = some (some (.ref p))) (pa : PenAt H p l ns a r) (ha : a ≤ 100000)
    (hta : ∀ R : List V → Hp → Prop, (∀ xs H', Same H H' → 0 < xs.length → xs.length < 1000 → (∀ v, v ∈ xs → ∀ H2, Keep p H' H2 → C H2 v) → R xs H') → ta σ H R)
    (k : ∀ H' a' r' v, Keep p H H' → PenAt H' p l ns a' r' → a' ≤ a + 1 → C H' v → Q v H') : tCall spPick [] E0 (tCons (tVar i) (tCons (tLstN ta) tNil)) σ H Q := by
  refine ⟨_, vp, hta _ fun xs H1 s1 pos few hC => ⟨by rw [sizeLine_eq]; omega, fun q nq mq => ?_⟩⟩
  have s := s1.trans (same_new (o := .lst xs) nq)
  have qp : q ≠ p := fun z => by
    have := s1 _ _ pa.pen
    rw [← z, nq] at this
    cases this
  exact ⟨p, l, q, ns, a, r, xs, rfl, pa.same s, ha, upd_same, qp, pos, by omega, fun H' a' r' v kp pa' la mv => k H' a' r' v ((Keep.of s).trans kp) pa' la (hC v mv _ ((Keep.of (same_new nq)).trans kp))⟩
end
/-- a wrong word, a wrong number, and their data -/
structure Wrong (H : Hp) (p : Addr) (v : V) (d : PyData) : Prop where
  odd : Odd H p v d
  shw : shwB d = true
theorem Wrong.keepN {H H' : Hp} {p : Addr} {v : V} {d : PyData} (o : Wrong H p v d) (k : KeepN p H H') : Wrong H' p v d := ⟨o.odd.keepN k, o.shw⟩
theorem Wrong.keep {H H' : Hp} {p : Addr} {v : V} {d : PyData} (o : Wrong H p v d) (k : Keep p H H') : Wrong H' p v d := o.keepN k.n
/-- _law_refused_right(pen) -/
def spLRefused (TS : List (Addr × Str)) : Sp := fun vs H Q _ => ∃ (p l : Addr) (ns : List Int) (a r : Int), vs = [.ref p] ∧ PenAt H p l ns a r ∧ a ≤ 90000 ∧ LamX.Tabs TS H ∧
  ∀ H' a' r', KeepN p H H' → LamX.Tabs TS H' → PenAt H' p l ns a' r' → a' ≤ a + 2 → Q (.bl true) H'
def qRefused : Str := "_law_refused_right.<locals>.<lambda>"
section
variable {P : Program} {w : World} {K : PySem.W.Frag} {mg : Str → Option Value} {base : Heap} {fd : FuncData}
theorem ok_law_refused_right {TS : List (Addr × Str)} {PT : Addr} (T : Top w K mg) (fU : PySem.W.findIn K (.ref (ca K 2)) "value" = some none) (fC : PySem.W.findIn K (.ref (ca K 3)) "value" = some none) (D_law_pick : Def P w K mg base "_law_pick" 2 ["_law_pen_here", "_law_some"] spPick) (D_unit_of : DefR (L2.CX P w) P w K mg base "unit_of" 4 "word" (spUnitOf K))
    (L_law_heard : LamD K mg "_law_heard" "_law_ask" s_law_heard) (TB : LamX.TabB base mg (He.codeOf K ("_law_refused_right", none)) PT) (hm : (PT, qRefused) ∈ TS) (hq : ∀ p ∈ TS, p.1 = PT → p.2 = qRefused) (F : Fn K "_law_refused_right" s_law_refused_right fd) : FnG P w K mg base CX0 7 (He.ga K "_law_refused_right") fd ["_law_pen_here"] (spLRefused TS) := by
  refine okGC (p := ("_law_refused_right", none)) F sc_law_refused_right (fun vs H Q E h => ?_) (fun A outer s H vs Q E hgu hr h => ?_)
  · obtain ⟨p, l, ns, a, r, rfl, _⟩ := h
    rfl
  · obtain ⟨p, l, ns, a, r, rfl, pa, ha, tabs, k⟩ := h
    have hu := hr.units
    refine ⟨_, PSs.nox (pss_cons (ps_asg (pe_tup (pa_cons (pe_callD D_law_pick (hr.mono (by decide)) rfl (pa_cons (pv 0) (pa_cons (pe_lstN (pa_cons pe_non (pa_cons pe_int (pa_cons pe_str (pa_cons pe_str (pa_cons pe_str (pa_cons (pe_tup (pa_cons pe_str pa_nil)) (pa_cons (pe_lstN pa_nil) (pa_cons pe_dnewK pa_nil))))))))) pa_nil))) (pa_cons (pe_callD D_law_pick (hr.mono (by decide)) rfl (pa_cons (pv 0) (pa_cons (pe_lstN (pa_cons pe_non (pa_cons (pe_un un_neg pe_int) (pa_cons pe_int (pa_cons pe_bl (pa_cons pe_str (pa_cons (pe_tup (pa_cons pe_int pa_nil)) (pa_cons (pe_op op_pow pe_int pe_int) pa_nil)))))))) pa_nil))) pa_nil))) (pg_tup rfl (pgs_cons (pg_name (i := 3) sc_law_refused_right.nd rfl (by first | exact Or.inl rfl | exact Or.inr rfl)) (pgs_cons (pg_name (i := 4) sc_law_refused_right.nd rfl (by first | exact Or.inl rfl | exact Or.inr rfl)) pgs_nil))))
      (pss_cons (ps_set (i := 1) sc_law_refused_right.nd rfl (by first | exact Or.inl rfl | exact Or.inr rfl) (pe_lstN (pa_cons (pe_lamX (k := 4) L_law_heard rfl sc_law_heard rfl (Or.inl rfl) (fun g cdg => heard_gives T fU fC hgu (hr.mono (by decide))) TB rfl hm hq (hr.mono (by decide)) (LamX.lamS_by (sc := defScope s_law_refused_right) (by decide +kernel)) rfl (fun _ _ _ _ _ => rfl) (fun A2 o2 s2 H2 E2 f2 c2 hr2 => (pe_callR D_unit_of (hr2.mono (by decide)) rfl (passes_call (takes_of rfl rfl rfl rfl) (fun _ _ _ _ h => h)) (pa_cons (pv 3) (pa_cons (pv 4) pa_nil))))) pa_nil)))
      (pss_cons (ps_expr (pe_bm PySem.F.plainAttrs_list PySem.F.slot_list_append PySem.F.type_list_append mt_append (pv 1) (pa_cons (pe_lamX (k := 4) L_law_heard rfl sc_law_heard rfl (Or.inl rfl) (fun g cdg => heard_gives T fU fC hgu (hr.mono (by decide))) TB rfl hm hq (hr.mono (by decide)) (LamX.lamS_by (sc := defScope s_law_refused_right) (by decide +kernel)) rfl (fun _ _ _ _ _ => rfl) (fun A2 o2 s2 H2 E2 f2 c2 hr2 => (pe_callR D_unit_of (hr2.mono (by decide)) rfl (passes_call (takes_of rfl rfl rfl rfl) (fun _ _ _ _ h => h)) (pa_cons pe_str (pa_cons (pv 4) pa_nil))))) pa_nil)))
      (pss_cons (ps_expr (pe_bm PySem.F.plainAttrs_list PySem.F.slot_list_append PySem.F.type_list_append mt_append (pv 1) (pa_cons (pe_lamX (k := 4) L_law_heard rfl sc_law_heard rfl (Or.inl rfl) (fun g cdg => heard_gives T fU fC hgu (hr.mono (by decide))) TB rfl hm hq (hr.mono (by decide)) (LamX.lamS_by (sc := defScope s_law_refused_right) (by decide +kernel)) rfl (fun _ _ _ _ _ => rfl) (fun A2 o2 s2 H2 E2 f2 c2 hr2 => (pe_callR D_unit_of (hr2.mono (by decide)) rfl (passes_call (takes_of rfl rfl rfl rfl) (fun _ _ _ _ h => h)) (pa_cons pe_str (pa_cons pe_int (pa_cons (pv 4) (pa_cons pe_int pa_nil))))))) pa_nil)))
      (pss_cons (ps_expr (pe_bm PySem.F.plainAttrs_list PySem.F.slot_list_append PySem.F.type_list_append mt_append (pv 1) (pa_cons (pe_lamX (k := 4) L_law_heard rfl sc_law_heard rfl (Or.inl rfl) (fun g cdg => heard_gives T fU fC hgu (hr.mono (by decide))) TB rfl hm hq (hr.mono (by decide)) (LamX.lamS_by (sc := defScope s_law_refused_right) (by decide +kernel)) rfl (fun _ _ _ _ _ => rfl) (fun A2 o2 s2 H2 E2 f2 c2 hr2 => (pe_callR D_unit_of (hr2.mono (by decide)) rfl (passes_call (takes_of rfl rfl rfl rfl) (fun _ _ _ _ h => h)) (pa_cons pe_str (pa_cons (pv 4) pa_nil))))) pa_nil)))
      (pss_cons (ps_expr (pe_bm PySem.F.plainAttrs_list PySem.F.slot_list_append PySem.F.type_list_append mt_append (pv 1) (pa_cons (pe_lamX (k := 4) L_law_heard rfl sc_law_heard rfl (Or.inl rfl) (fun g cdg => heard_gives T fU fC hgu (hr.mono (by decide))) TB rfl hm hq (hr.mono (by decide)) (LamX.lamS_by (sc := defScope s_law_refused_right) (by decide +kernel)) rfl (fun _ _ _ _ _ => rfl) (fun A2 o2 s2 H2 E2 f2 c2 hr2 => (pe_callR D_unit_of (hr2.mono (by decide)) rfl (passes_call (takes_of rfl rfl rfl rfl) (fun _ _ _ _ h => h)) (pa_cons pe_str (pa_cons pe_int (pa_cons (pv 4) pa_nil)))))) pa_nil)))
      (pss_cons (ps_expr (pe_bm PySem.F.plainAttrs_list PySem.F.slot_list_append PySem.F.type_list_append mt_append (pv 1) (pa_cons (pe_lamX (k := 4) L_law_heard rfl sc_law_heard rfl (Or.inl rfl) (fun g cdg => heard_gives T fU fC hgu (hr.mono (by decide))) TB rfl hm hq (hr.mono (by decide)) (LamX.lamS_by (sc := defScope s_law_refused_right) (by decide +kernel)) rfl (fun _ _ _ _ _ => rfl) (fun A2 o2 s2 H2 E2 f2 c2 hr2 => (pe_callR D_unit_of (hr2.mono (by decide)) rfl (passes_call (takes_of rfl rfl rfl rfl) (fun _ _ _ _ h => h)) (pa_cons pe_str (pa_cons pe_int (pa_cons pe_int (pa_cons pe_int pa_nil))))))) pa_nil)))
      (pss_cons (ps_expr (pe_bm PySem.F.plainAttrs_list PySem.F.slot_list_append PySem.F.type_list_append mt_append (pv 1) (pa_cons (pe_lamX (k := 4) L_law_heard rfl sc_law_heard rfl (Or.inl rfl) (fun g cdg => heard_gives T fU fC hgu (hr.mono (by decide))) TB rfl hm hq (hr.mono (by decide)) (LamX.lamS_by (sc := defScope s_law_refused_right) (by decide +kernel)) rfl (fun _ _ _ _ _ => rfl) (fun A2 o2 s2 H2 E2 f2 c2 hr2 => (pe_callR D_unit_of (hr2.mono (by decide)) rfl (passes_call (takes_of rfl rfl rfl rfl) (fun _ _ _ _ h => h)) (pa_cons pe_str (pa_cons pe_int pa_nil))))) pa_nil)))
      (pss_cons (ps_expr (pe_bm PySem.F.plainAttrs_list PySem.F.slot_list_append PySem.F.type_list_append mt_append (pv 1) (pa_cons (pe_lamX (k := 4) L_law_heard rfl sc_law_heard rfl (Or.inl rfl) (fun g cdg => heard_gives T fU fC hgu (hr.mono (by decide))) TB rfl hm hq (hr.mono (by decide)) (LamX.lamS_by (sc := defScope s_law_refused_right) (by decide +kernel)) rfl (fun _ _ _ _ _ => rfl) (fun A2 o2 s2 H2 E2 f2 c2 hr2 => (pe_callR D_unit_of (hr2.mono (by decide)) rfl (passes_call (takes_of rfl rfl rfl rfl) (fun _ _ _ _ h => h)) (pa_cons pe_str pa_nil)))) pa_nil)))
      (pss_cons (ps_set (i := 2) sc_law_refused_right.nd rfl (by first | exact Or.inl rfl | exact Or.inr rfl) (pe_op op_plus (pe_op op_plus (pe_lstN (pa_cons (pe_tup (pa_cons pe_str (pa_cons (pe_callB (call_repr hgu hu) rfl T.n_repr (by decide +kernel) (pa_cons (pv 3) pa_nil)) pa_nil))) pa_nil)) (pe_op op_times (pe_lstN (pa_cons (pe_tup (pa_cons pe_str (pa_cons (pe_callB (call_repr hgu hu) rfl T.n_repr (by decide +kernel) (pa_cons (pv 4) pa_nil)) pa_nil))) pa_nil)) pe_int)) (pe_lstN (pa_cons (pe_tup (pa_cons pe_str (pa_cons pe_str pa_nil))) (pa_cons (pe_tup (pa_cons pe_str (pa_cons pe_int pa_nil))) (pa_cons (pe_tup (pa_cons pe_str (pa_cons pe_int pa_nil))) (pa_cons (pe_tup (pa_cons pe_str (pa_cons pe_int pa_nil))) pa_nil)))))))
      (pss_one (ps_ret (pe_cmpR (op_same hu) (pv 1) (pv 2) (nomark _)))))))))))))), ?_⟩
    refine (pick_by (i := 0) (C := fun H v => ∃ d, Wrong H p v d ∧ ∀ ws, unitOfR v ws = .unit v) rfl pa (by omega) (fun R hR => ?_) fun H1 a1 r1 odd k1 p1 l1 ⟨dO, wO, uO⟩ => ?_)
    · refine ⟨(by decide : (1 : Nat) ≤ sizeLine), fun t nt => ⟨(by decide : (0 : Nat) ≤ sizeLine), fun l0 nl ml => fun dd nd => ?_⟩⟩
      have tp : t ≠ p := (ne_of_none pa.pen nt).symm
      have s1 := same_new (o := .tup [.str "block"]) nt
      have lp : l0 ≠ p := (ne_of_none (s1 _ _ pa.pen) nl).symm
      have s2 := same_new (o := .lst []) nl
      have dp : dd ≠ p := (ne_of_none (s2 _ _ (s1 _ _ pa.pen)) nd).symm
      have s3 := same_new (o := .dK []) nd
      refine hR _ _ ((s1.trans s2).trans s3) (Nat.zero_lt_succ _) (by show 8 < 1000; decide) fun v mv H2 kp => ?_
      simp only [List.mem_cons, List.not_mem_nil, or_false] at mv
      rcases mv with rfl | rfl | rfl | rfl | rfl | rfl | rfl | rfl
      · exact ⟨_, ⟨.non, by decide +kernel⟩, fun _ => rfl⟩
      · exact ⟨_, ⟨.int 0, by decide +kernel⟩, fun _ => rfl⟩
      · exact ⟨_, ⟨.str _ (by decide +kernel), by decide +kernel⟩, no_word (by decide +kernel)⟩
      · exact ⟨_, ⟨.str _ (by decide +kernel), by decide +kernel⟩, no_word (by decide +kernel)⟩
      · exact ⟨_, ⟨.str _ (by decide +kernel), by decide +kernel⟩, no_word (by decide +kernel)⟩
      · exact ⟨_, ⟨.ts "block" (kp _ _ tp (s3 _ _ (s2 _ _ upd_same))) tp, by decide +kernel⟩, fun _ => rfl⟩
      · exact ⟨_, ⟨.l0 (kp _ _ lp (s3 _ _ upd_same)) lp ml, by decide +kernel⟩, fun _ => rfl⟩
      · exact ⟨_, ⟨.d0 (kp _ _ dp upd_same) dp, by decide +kernel⟩, fun _ => rfl⟩
    refine (pick_by (i := 0) (C := fun H v => ∃ d, Wrong H p v d ∧ ∀ x i, numV x i v = false) rfl p1 (by omega) (fun R hR => ?_) fun H2 a2 r2 bad k2 p2 l2 ⟨dB, wB, uB⟩ => ?_)
    · refine ⟨_, rfl, (by decide : (1 : Nat) ≤ sizeLine), fun t nt => ⟨_, _, rfl, rfl, c30, ?_⟩⟩
      have tp : t ≠ p := (ne_of_none p1.pen nt).symm
      refine hR _ _ (same_new nt) (Nat.zero_lt_succ _) (by show 7 < 1000; decide) fun v mv H2 kp => ?_
      simp only [List.mem_cons, List.not_mem_nil, or_false] at mv
      rcases mv with rfl | rfl | rfl | rfl | rfl | rfl | rfl
      · exact ⟨_, ⟨.non, by decide +kernel⟩, fun _ _ => rfl⟩
      · exact ⟨_, ⟨.int _, by decide +kernel⟩, fun _ _ => numV_out (by decide)⟩
      · exact ⟨_, ⟨.int _, by decide +kernel⟩, fun _ _ => numV_out (by decide)⟩
      · exact ⟨_, ⟨.bl _, by decide +kernel⟩, fun _ _ => rfl⟩
      · exact ⟨_, ⟨.str _ (by decide +kernel), by decide +kernel⟩, fun _ _ => rfl⟩
      · exact ⟨_, ⟨.ti 1 (kp _ _ tp upd_same) tp, by decide +kernel⟩, fun _ _ => rfl⟩
      · exact ⟨_, ⟨.int _, by decide +kernel⟩, fun _ _ => numV_out (by decide)⟩
    have wO2 := wO.keep k2
    have kk := (k1.trans k2).n
    refine ⟨(by decide : (2 : Nat) ≤ sizeLine), fun t0 n0 => ⟨t0, _, rfl, SqT.of upd_same, rfl, _, _, rfl, _, _, rfl, rfl, ?_⟩⟩
    have s0 := same_new (o := .tup [odd, bad]) n0
    have kk0 := kk.trans (KeepN.same s0)
    have tabs0 : LamX.Tabs TS _ := tabs_keep (tabs_keep (tabs_keep tabs pa.pen k1) p1.pen k2) (p2.pen) (Keep.of s0)
    have wO0 := wO2.keepN (KeepN.same s0)
    have wB0 := wB.keepN (KeepN.same s0)
    have p0 := p2.same s0
    generalize upd H2 t0 (.tup [odd, bad]) = H3 at kk0 tabs0 wO0 wB0 p0 ⊢
    with_reducible refine set_of ?_
    with_reducible refine log_new (TL := TS) (t := ("unit", .str dO.shown)) ?_ ?_ ?_
    rotate_left
    · rfl
    rotate_left
    · intro Q hQ
      exact heard_step tabs0 (fun R H' e h => ⟨_, rfl, _, rfl, h⟩) (fun H' e => (wO0.odd.ext e).kinds) (fun u hu H' e => by cases List.mem_singleton.mp hu; exact (wB0.odd.ext e).kinds) (Nat.le_of_ble_eq_true rfl) wO0.odd.short (by rw [uO]; exact ⟨p, dO, fun H' e => (wO0.odd.ext e).rds, (shw_of wO0.shw).1, (shw_of wO0.shw).2.1, (shw_of wO0.shw).2.2.1, rfl⟩) hQ
    intro H4 q k4 n4 lg4
    have wO4 := wO0.odd.at_ n4 k4
    have wB4 := wB0.odd.at_ n4 k4
    have bad_ok : ∀ {H' : Hp}, Odd H' q bad dB → HearOk K H' (.unit bad) ("unit", .str dB.shown) := fun o => ⟨q, dB, fun H'' e => (o.ext e).rds, (shw_of wB0.shw).1, (shw_of wB0.shw).2.1, (shw_of wB0.shw).2.2.1, rfl⟩
    have nob : ∀ {H' : Hp} {d : PyData}, Odd H' q bad d → ∀ H'', LamX.ExtN H' H'' → Kinds K H'' bad := fun o H'' e => (o.ext e).kinds
    with_reducible refine seq_of ?_
    with_reducible refine log_app (t := ("unit", .str dB.shown)) ?_ lg4 (Nat.le_of_ble_eq_true rfl) ?_ ?_ ?_
    · rfl
    · intro Q hQ
      exact heard_step (v := .str "block") (ws := [bad]) lg4.tabs (fun R H' e h => ⟨_, rfl, h⟩) (fun _ _ => kinds_str _) (fun u hu H' e => by
        simp only [List.mem_cons, List.not_mem_nil, or_false] at hu
        rcases hu with rfl
        all_goals first | exact kinds_int _ | exact nob wB4 H' e) (Nat.le_of_ble_eq_true rfl) (fun _ z => by cases z; decide +kernel) (by rw [unit_bad (by decide +kernel) (firstBad_hd (uB _ _))]; exact bad_ok wB4) hQ
    · rfl
    intro H5 k5 lg5
    have wO5 := wO4.keepN k5
    have wB5 := wB4.keepN k5
    with_reducible refine seq_of ?_
    with_reducible refine log_app (t := ("unit", .str dB.shown)) ?_ lg5 (Nat.le_of_ble_eq_true rfl) ?_ ?_ ?_
    · rfl
    · intro Q hQ
      exact heard_step (v := .str "parity") (ws := [.int 3, bad, .int 2]) lg5.tabs (fun R H' e h => ⟨_, rfl, h⟩) (fun _ _ => kinds_str _) (fun u hu H' e => by
        simp only [List.mem_cons, List.not_mem_nil, or_false] at hu
        rcases hu with rfl | rfl | rfl
        all_goals first | exact kinds_int _ | exact nob wB5 H' e) (Nat.le_of_ble_eq_true rfl) (fun _ z => by cases z; decide +kernel) (by rw [unit_bad (by decide +kernel) ((firstBad_tl (by decide +kernel)).trans (firstBad_hd (uB _ _)))]; exact bad_ok wB5) hQ
    · rfl
    intro H6 k6 lg6
    have wO6 := wO5.keepN k6
    have wB6 := wB5.keepN k6
    with_reducible refine seq_of ?_
    with_reducible refine log_app (t := ("unit", .str dB.shown)) ?_ lg6 (Nat.le_of_ble_eq_true rfl) ?_ ?_ ?_
    · rfl
    · intro Q hQ
      exact heard_step (v := .str "journal") (ws := [bad]) lg6.tabs (fun R H' e h => ⟨_, rfl, h⟩) (fun _ _ => kinds_str _) (fun u hu H' e => by
        simp only [List.mem_cons, List.not_mem_nil, or_false] at hu
        rcases hu with rfl
        all_goals first | exact kinds_int _ | exact nob wB6 H' e) (Nat.le_of_ble_eq_true rfl) (fun _ z => by cases z; decide +kernel) (by rw [unit_bad (by decide +kernel) (firstBad_hd (uB _ _))]; exact bad_ok wB6) hQ
    · rfl
    intro H7 k7 lg7
    have wO7 := wO6.keepN k7
    have wB7 := wB6.keepN k7
    with_reducible refine seq_of ?_
    with_reducible refine log_app (t := ("unit", .str "0")) ?_ lg7 (Nat.le_of_ble_eq_true rfl) ?_ ?_ ?_
    · rfl
    · intro Q hQ
      exact heard_step (v := .str "cell") (ws := [.int 0, bad]) lg7.tabs (fun R H' e h => ⟨_, rfl, h⟩) (fun _ _ => kinds_str _) (fun u hu H' e => by
        simp only [List.mem_cons, List.not_mem_nil, or_false] at hu
        rcases hu with rfl | rfl
        all_goals first | exact kinds_int _ | exact nob wB7 H' e) (Nat.le_of_ble_eq_true rfl) (fun _ z => by cases z; decide +kernel) (by rw [unit_bad (by decide +kernel) (firstBad_hd (by decide +kernel))]; exact ⟨q, .int 0, fun _ _ => rds_int 0, by decide +kernel, by decide +kernel, by decide +kernel, by decide +kernel⟩) hQ
    · rfl
    intro H8 k8 lg8
    have wO8 := wO7.keepN k8
    have wB8 := wB7.keepN k8
    with_reducible refine seq_of ?_
    with_reducible refine log_app (t := ("count", .int 3)) ?_ lg8 (Nat.le_of_ble_eq_true rfl) ?_ ?_ ?_
    · rfl
    · intro Q hQ
      exact heard_step (v := .str "cell") (ws := [.int 1, .int 0, .int 7]) lg8.tabs (fun R H' e h => h) (fun _ _ => kinds_str _) (fun u hu H' e => by
        simp only [List.mem_cons, List.not_mem_nil, or_false] at hu
        rcases hu with rfl | rfl | rfl
        all_goals first | exact kinds_int _ | exact nob wB8 H' e) (Nat.le_of_ble_eq_true rfl) (fun _ z => by cases z; decide +kernel) (by rw [unit_cnt (by decide +kernel) ((firstBad_tl (by decide +kernel)).trans ((firstBad_tl (by decide +kernel)).trans ((firstBad_tl (by decide +kernel)).trans rfl))) (by decide +kernel)]; exact rfl) hQ
    · rfl
    intro H9 k9 lg9
    have wO9 := wO8.keepN k9
    have wB9 := wB8.keepN k9
    with_reducible refine seq_of ?_
    with_reducible refine log_app (t := ("count", .int 1)) ?_ lg9 (Nat.le_of_ble_eq_true rfl) ?_ ?_ ?_
    · rfl
    · intro Q hQ
      exact heard_step (v := .str "journal") (ws := [.int 0]) lg9.tabs (fun R H' e h => h) (fun _ _ => kinds_str _) (fun u hu H' e => by
        simp only [List.mem_cons, List.not_mem_nil, or_false] at hu
        rcases hu with rfl
        all_goals first | exact kinds_int _ | exact nob wB9 H' e) (Nat.le_of_ble_eq_true rfl) (fun _ z => by cases z; decide +kernel) (by rw [unit_cnt (by decide +kernel) ((firstBad_tl (by decide +kernel)).trans rfl) (by decide +kernel)]; exact rfl) hQ
    · rfl
    intro H10 k10 lg10
    have wO10 := wO9.keepN k10
    have wB10 := wB9.keepN k10
    with_reducible refine seq_of ?_
    with_reducible refine log_app (t := ("count", .int 0)) ?_ lg10 (Nat.le_of_ble_eq_true rfl) ?_ ?_ ?_
    · rfl
    · intro Q hQ
      exact heard_step (v := .str "page") (ws := []) lg10.tabs (fun R H' e h => h) (fun _ _ => kinds_str _) (fun u hu H' e => by
        cases hu) (Nat.le_of_ble_eq_true rfl) (fun _ z => by cases z; decide +kernel) (by rw [unit_cnt (by decide +kernel) rfl (by decide +kernel)]; exact rfl) hQ
    · rfl
    intro H11 k11 lg11
    have wO11 := wO10.keepN k11
    have wB11 := wB10.keepN k11
    have kq : KeepN q H3 H11 := k4.trans (k5.trans (k6.trans (k7.trans (k8.trans (k9.trans (k10.trans k11))))))
    have nt_l : ∀ {xs : List V} (ps : Array Value), (HO.lst xs : HO) ≠ .tbl ps := fun _ z => nomatch z
    have kpE : KeepN p H H11 := fun b o np hb nt => by
      have h3 := kk0 b o np hb nt
      exact kq b o (n4 b o h3 nt) h3 nt
    have penE : PenAt H11 p l ns a2 r2 := ⟨kq _ _ (n4 _ _ p0.pen fun _ z => nomatch z) p0.pen (fun _ z => nomatch z), kq _ _ (n4 _ _ p0.nums fun _ z => nomatch z) p0.nums (fun _ z => nomatch z), p0.ne, p0.few, p0.from0, p0.rest0⟩
    obtain ⟨⟨vs, hqv, told, len⟩, tabsE⟩ := lg11
    obtain ⟨sO1, sO2, sO3, sO4⟩ := shw_of wO0.shw
    obtain ⟨sB1, sB2, sB3, sB4⟩ := shw_of wB0.shw
    have s100 : ∀ {n : Nat}, n ≤ 200 → n ≤ sizeLine := fun h => Nat.le_trans h (by rw [sizeLine_eq]; decide)
    with_reducible refine set_of ?_
    refine ⟨_, rfl, q, odd, dO, rfl, wO11.rds, sO1, sO2, s100 sO3, (by decide : (2 : Nat) ≤ sizeLine), fun t1 n1 => ⟨(by decide : (1 : Nat) ≤ sizeLine), fun l1 m1 _ => ?_⟩⟩
    have y1 := same_new (o := .tup [.str "unit", .str dO.shown]) n1
    have h1 : upd H11 t1 (.tup [.str "unit", .str dO.shown]) t1 = some (.tup [.str "unit", .str dO.shown]) := upd_same
    have y2 := y1.trans (same_new (o := .lst [.ref t1]) m1)
    have h1' := same_new (o := .lst [.ref t1]) m1 _ _ h1
    have g1 : upd (upd H11 t1 (.tup [.str "unit", .str dO.shown])) l1 (.lst [.ref t1]) l1 = some (.lst [.ref t1]) := upd_same
    generalize upd (upd H11 t1 (.tup [.str "unit", .str dO.shown])) l1 (.lst [.ref t1]) = J1 at y2 h1' g1 ⊢
    have wB12 := wB11.same y2
    refine ⟨_, rfl, q, bad, dB, rfl, wB12.rds, sB1, sB2, s100 sB3, (by decide : (2 : Nat) ≤ sizeLine), fun t2 n2 => ⟨(by decide : (1 : Nat) ≤ sizeLine), fun l2 m2 _ => ?_⟩⟩
    have y3 := same_new (o := .tup [.str "unit", .str dB.shown]) n2
    have h2 : upd J1 t2 (.tup [.str "unit", .str dB.shown]) t2 = some (.tup [.str "unit", .str dB.shown]) := upd_same
    have y4 := y3.trans (same_new (o := .lst [.ref t2]) m2)
    have h2' := same_new (o := .lst [.ref t2]) m2 _ _ h2
    have g2 : upd (upd J1 t2 (.tup [.str "unit", .str dB.shown])) l2 (.lst [.ref t2]) l2 = some (.lst [.ref t2]) := upd_same
    generalize upd (upd J1 t2 (.tup [.str "unit", .str dB.shown])) l2 (.lst [.ref t2]) = J2 at y4 h2' g2 ⊢
    refine .inr (.inl ⟨l2, 3, [.ref t2], rfl, rfl, g2, by decide, by decide, (by decide : (3 : Nat) ≤ sizeLine), fun l3 m3 => ?_⟩)
    have y5 := y4.trans (same_new (o := .lst [.ref t2, .ref t2, .ref t2]) m3)
    have h2'' := same_new (o := .lst [.ref t2, .ref t2, .ref t2]) m3 _ _ h2'
    have g3 : upd J2 l3 (.lst [.ref t2, .ref t2, .ref t2]) l3 = some (.lst [.ref t2, .ref t2, .ref t2]) := upd_same
    show rPlus (.ref l1) (.ref l3) (upd J2 l3 (.lst [.ref t2, .ref t2, .ref t2])) _
    generalize upd J2 l3 (.lst [.ref t2, .ref t2, .ref t2]) = J3 at y5 h2'' g3 ⊢
    refine .inr (.inl ⟨l1, l3, [.ref t1], [.ref t2, .ref t2, .ref t2], rfl, rfl, y5 _ _ g1, g3, (by decide : (4 : Nat) ≤ sizeLine), fun l4 m4 => ?_⟩)
    have y6 := same_new (o := .lst [.ref t1, .ref t2, .ref t2, .ref t2]) m4
    have g4 : upd J3 l4 (.lst [.ref t1, .ref t2, .ref t2, .ref t2]) l4 = some (.lst [.ref t1, .ref t2, .ref t2, .ref t2]) := upd_same
    have a1' := y6 _ _ (y5 _ _ h1')
    have a2' := y6 _ _ h2''
    have y7 := (y2.trans y5).trans y6
    show tCons _ _ _ (upd J3 l4 (.lst [.ref t1, .ref t2, .ref t2, .ref t2])) _
    generalize upd J3 l4 (.lst [.ref t1, .ref t2, .ref t2, .ref t2]) = J4 at y7 g4 a1' a2' ⊢
    refine ⟨(by decide : (2 : Nat) ≤ sizeLine), fun t3 n3 => ⟨(by decide : (2 : Nat) ≤ sizeLine), fun t4 n4 => ⟨(by decide : (2 : Nat) ≤ sizeLine), fun t5 n5 => ⟨(by decide : (2 : Nat) ≤ sizeLine), fun t6 n6 => ⟨(by decide : (4 : Nat) ≤ sizeLine), fun l5 m5 _ => ?_⟩⟩⟩⟩⟩
    have z3 := same_new (o := .tup [.str "unit", .str "0"]) n3
    have z4 := same_new (o := .tup [.str "count", .int 3]) n4
    have z5 := same_new (o := .tup [.str "count", .int 1]) n5
    have z6 := same_new (o := .tup [.str "count", .int 0]) n6
    have z7 := same_new (o := .lst [.ref t3, .ref t4, .ref t5, .ref t6]) m5
    have b3 := z7 _ _ (z6 _ _ (z5 _ _ (z4 _ _ (upd_same (H := J4) (a := t3) (o := .tup [.str "unit", .str "0"])))))
    have b4 := z7 _ _ (z6 _ _ (z5 _ _ (upd_same (a := t4) (o := .tup [.str "count", .int 3]))))
    have b5 := z7 _ _ (z6 _ _ (upd_same (a := t5) (o := .tup [.str "count", .int 1])))
    have b6 := z7 _ _ (upd_same (a := t6) (o := .tup [.str "count", .int 0]))
    have g5 : upd (upd (upd (upd (upd J4 t3 (.tup [.str "unit", .str "0"])) t4 (.tup [.str "count", .int 3])) t5 (.tup [.str "count", .int 1])) t6 (.tup [.str "count", .int 0])) l5 (.lst [.ref t3, .ref t4, .ref t5, .ref t6]) l5 = some (.lst [.ref t3, .ref t4, .ref t5, .ref t6]) := upd_same
    have y8 := z3.trans (z4.trans (z5.trans (z6.trans z7)))
    generalize upd (upd (upd (upd (upd J4 t3 (.tup [.str "unit", .str "0"])) t4 (.tup [.str "count", .int 3])) t5 (.tup [.str "count", .int 1])) t6 (.tup [.str "count", .int 0])) l5 (.lst [.ref t3, .ref t4, .ref t5, .ref t6]) = J5 at y8 b3 b4 b5 b6 g5 ⊢
    refine .inr (.inl ⟨l4, l5, [.ref t1, .ref t2, .ref t2, .ref t2], [.ref t3, .ref t4, .ref t5, .ref t6], rfl, rfl, y8 _ _ g4, g5, (by decide : (8 : Nat) ≤ sizeLine), fun l6 m6 => ?_⟩)
    have z8 := same_new (o := .lst [.ref t1, .ref t2, .ref t2, .ref t2, .ref t3, .ref t4, .ref t5, .ref t6]) m6
    have c1 := z8 _ _ (y8 _ _ a1')
    have c2 := z8 _ _ (y8 _ _ a2')
    have due : Told (upd J5 l6 (.lst [.ref t1, .ref t2, .ref t2, .ref t2, .ref t3, .ref t4, .ref t5, .ref t6])) l6 [.ref t1, .ref t2, .ref t2, .ref t2, .ref t3, .ref t4, .ref t5, .ref t6] [("unit", .str dO.shown), ("unit", .str dB.shown), ("unit", .str dB.shown), ("unit", .str dB.shown), ("unit", .str "0"), ("count", .int 3), ("count", .int 1), ("count", .int 0)] := by
      have ne : ∀ {b : Addr} {o : HO}, J5 b = some o → b ≠ l6 := fun h => ne_of_none h m6
      exact .cons c1 (ne (y8 _ _ a1')) rfl (.cons c2 (ne (y8 _ _ a2')) rfl (.cons c2 (ne (y8 _ _ a2')) rfl (.cons c2 (ne (y8 _ _ a2')) rfl (.cons (z8 _ _ b3) (ne b3) rfl (.cons (z8 _ _ b4) (ne b4) rfl (.cons (z8 _ _ b5) (ne b5) rfl (.cons (z8 _ _ b6) (ne b6) rfl .nil)))))))
    have hd6 : upd J5 l6 (.lst [.ref t1, .ref t2, .ref t2, .ref t2, .ref t3, .ref t4, .ref t5, .ref t6]) l6 = some (.lst [.ref t1, .ref t2, .ref t2, .ref t2, .ref t3, .ref t4, .ref t5, .ref t6]) := upd_same
    have y9 := (y7.trans y8).trans z8
    show tRet _ _ _ (upd J5 l6 (.lst [.ref t1, .ref t2, .ref t2, .ref t2, .ref t3, .ref t4, .ref t5, .ref t6]))
    generalize upd J5 l6 (.lst [.ref t1, .ref t2, .ref t2, .ref t2, .ref t3, .ref t4, .ref t5, .ref t6]) = J6 at y9 due hd6 ⊢
    have told' := told.keepN (KeepN.same y9)
    have ok8 : tsOk [("unit", .str dO.shown), ("unit", .str dB.shown), ("unit", .str dB.shown), ("unit", .str dB.shown), ("unit", .str "0"), ("count", .int 3), ("count", .int 1), ("count", .int 0)] = true := rfl
    have lay8 : layT [("unit", .str dO.shown), ("unit", .str dB.shown), ("unit", .str dB.shown), ("unit", .str dB.shown), ("unit", .str "0"), ("count", .int 3), ("count", .int 1), ("count", .int 0)] = true := by
      have u0 : PyData.strOk "unit" = true := by decide +kernel
      have u1 : PyData.strOk "count" = true := by decide +kernel
      have u2 : PyData.strOk "0" = true := by decide +kernel
      simp only [layT, u0, u1, u2, sO4, sB4, Bool.and_self]
    have sh := shaped_tell lay8
    refine ⟨_, rfl, _, rfl, .inr ⟨_, _, .lst (SqL.of (y9 _ _ hqv)) (told'.dp ok8), .lst (SqL.of hd6) (due.dp ok8), sh, sh, ?_⟩⟩
    have e8 := same_data sh
    refine (congrArg (fun b => Q (.bl b) J6) e8).mpr ?_
    exact k J6 a2 r2 (kpE.trans (KeepN.same y9)) (tabs_same tabsE y9) (penE.same y9) (by omega)
end
end L2.K32
set_option Elab.async false
set_option linter.all false
set_option maxRecDepth 100000
set_option maxHeartbeats 4000000
/-! Texts of units in order. -/
namespace L2.K32
open PySem PySem.Spec PyProof.Rows L2.RV
def qTexts : Str := "_law_texts_right.<locals>.<lambda>"
def rSplit : V → List V → Hp → VK → Prop := fun x xs H Q => ∃ a b, x = .str a ∧ xs = [.str b] ∧ (b.length == 0) = false ∧ a.length + 2 ≤ sizeLine ∧ rNewStrs (Txt.split a b) H Q
theorem pen_ext {H H' : Hp} {p l : Addr} {ns : List Int} {a r : Int} (x : PenAt H p l ns a r) (e : LamX.ExtN H H') : PenAt H' p l ns a r := ⟨e _ _ x.pen (fun _ z => nomatch z), e _ _ x.nums (fun _ z => nomatch z), x.ne, x.few, x.from0, x.rest0⟩
theorem RowP.ext {H H' : Hp} {p q : Addr} {ws : List Str} {n : Nat} (x : RowP H p q ws n) (e : LamX.ExtN H H') : RowP H' p q ws n := ⟨⟨e _ _ x.row.at_ (fun _ z => nomatch z), x.row.ne, x.row.few, x.row.short, x.row.ok⟩, x.plain, x.np⟩
theorem RowAt.more {H : Hp} {q : Addr} {ws : List Str} {n m : Nat} (x : RowAt H q ws n) (h : n ≤ m) : RowAt H q ws m := ⟨x.at_, x.ne, Nat.le_trans x.few h, x.short, x.ok⟩
/-- what is read of no text -/
theorem read_odd {K : PySem.W.Frag} {H : Hp} {Q : VK} {E : XK} {v : V} (n : ∀ x, v ≠ .str x) (kv : ∀ H', Same H H' → Kinds K H' v) (k : BadAt K H E 0) : spRead K [v] H Q E := by
  refine ⟨v, rfl, kv, ?_⟩
  cases v with
  | str x => exact absurd rfl (n x)
  | _ => exact k
section
variable {K : PySem.W.Frag} {TZ : List (Addr × Str)}
theorem read_step {σ : L2.St} {H : Hp} {Q : VK} {ta : TA} {v : V} (tabs : LamX.Tabs TZ H) (hta : ∀ R H', LamX.ExtN H H' → R [v] H' → ta σ H' R) (n : ∀ x, v ≠ .str x) (kv : ∀ H', LamX.ExtN H H' → Kinds K H' v)
    (k : ∀ H' a, LamX.ExtN H H' → LamX.Tabs TZ H' → H' a = some (.tup [.str "text", .int 0, .int 0]) → Q (.ref a) H') :
    LamX.tLam TZ (TRead K) (fun E => tCall (spRead K) [] E ta) σ H Q := by
  refine ⟨tabs, fun H1 e1 t1 H2 R s2 _ => ?_⟩
  have e2 := e1.trans (ext_same s2)
  refine hta _ _ e2 (read_odd n (fun H' s => kv _ (e2.trans (ext_same s))) fun H' d s ex => ?_)
  exact ⟨d, rfl, rfl, _, _, ex, fun H4 a s4 ha => k _ a (e2.trans (ext_same (s.trans s4))) (tabs_same t1 (s2.trans (s.trans s4))) ha⟩
theorem words_few : ∀ (us : List PU), (∀ u, u ∈ us → Parts u.1 u.2) → (wordsOf us).length ≤ 4 * us.length + 1
  | [], _ => by decide
  | u :: us, p => by
    have all : ∀ vs : List PU, (∀ u, u ∈ vs → Parts u.1 u.2) → (restW vs).length ≤ 4 * vs.length := by
      intro vs
      induction vs with
      | nil => intro _; exact Nat.le_refl _
      | cons v vs ih =>
        intro h
        have e : restW (v :: vs) = [("," : Str)] ++ (segP v ++ restW vs) := rfl
        have s : (segP v).length = 1 + v.2.length := seg_len v.1 v.2
        have f := (h v List.mem_cons_self).few
        have i := ih fun u hu => h u (List.mem_cons_of_mem _ hu)
        rw [e, List.length_append, List.length_append, s, List.length_singleton, List.length_cons]
        omega
    have z := all us fun v hv => p v (List.mem_cons_of_mem _ hv)
    have e : wordsOf (u :: us) = segP u ++ restW us := rfl
    have s : (segP u).length = 1 + u.2.length := seg_len u.1 u.2
    have f := (p u List.mem_cons_self).few
    rw [e, List.length_append, s, List.length_cons]
    omega
theorem mem_joinL (S : List Nat) {c : Nat} : ∀ {ls : List (List Nat)}, c ∈ TL.joinL S ls → c ∈ S ∨ ∃ l, l ∈ ls ∧ c ∈ l
  | [], h => by cases h
  | [p], h => .inr ⟨p, List.mem_cons_self, h⟩
  | p :: q :: r, h => by
    rcases List.mem_append.mp (show c ∈ p ++ (S ++ TL.joinL S (q :: r)) from h) with h | h
    · exact .inr ⟨p, List.mem_cons_self, h⟩
    rcases List.mem_append.mp h with h | h
    · exact .inl h
    rcases mem_joinL S h with h | ⟨l, hl, h⟩
    · exact .inl h
    · exact .inr ⟨l, List.mem_cons_of_mem _ hl, h⟩
theorem num_ok : ∀ k : Fin 100, PyData.strOk (toString ((k.val : Nat) : Int)) = true := by decide +kernel
theorem word_ok {y : Str} (h : isWord y = true) : PyData.strOk y = true := by
  rcases word6 h with rfl | rfl | rfl | rfl | rfl | rfl <;> decide +kernel
theorem words_ok {us : List PU} (p : ∀ u, u ∈ us → Parts u.1 u.2) : ∀ w, w ∈ wordsOf us → PyData.strOk w = true := by
  have seg : ∀ u : PU, Parts u.1 u.2 → ∀ w, w ∈ segP u → PyData.strOk w = true := by
    intro u pu w hw
    rcases List.mem_cons.mp hw with rfl | hw
    · exact word_ok pu.word
    · obtain ⟨n, hn, rfl⟩ := List.mem_map.mp hw
      obtain ⟨n0, n1⟩ := pu.rng n hn
      have e : n = ((n.toNat : Nat) : Int) := (Int.toNat_of_nonneg n0).symm
      rw [e]
      exact num_ok ⟨n.toNat, by omega⟩
  have rest : ∀ vs : List PU, (∀ u, u ∈ vs → Parts u.1 u.2) → ∀ w, w ∈ restW vs → PyData.strOk w = true := by
    intro vs hv w hw
    obtain ⟨u, hu, hw⟩ := List.mem_flatMap.mp hw
    rcases List.mem_cons.mp hw with rfl | hw
    · decide +kernel
    · exact seg u (hv u hu) w hw
  intro w hw
  cases us with
  | nil =>
    rcases List.mem_cons.mp hw with rfl | hw
    · decide +kernel
    · cases hw
  | cons u us =>
    rcases List.mem_append.mp (show w ∈ segP u ++ restW us from hw) with h | h
    · exact seg u (p u List.mem_cons_self) w h
    · exact rest us (fun v hv => p v (List.mem_cons_of_mem _ hv)) w h
theorem seg_ok {u : PU} (pu : Parts u.1 u.2) : ∀ w, w ∈ segP u → PyData.strOk w = true := by
  intro w hw
  rcases List.mem_cons.mp hw with rfl | hw
  · exact word_ok pu.word
  · obtain ⟨n, hn, rfl⟩ := List.mem_map.mp hw
    obtain ⟨n0, n1⟩ := pu.rng n hn
    have e : n = ((n.toNat : Nat) : Int) := (Int.toNat_of_nonneg n0).symm
    rw [e]
    exact num_ok ⟨n.toNat, by omega⟩
theorem txt_ok {u : PU} (p : Parts u.1 u.2) : PyData.strOk (txtP u) = true := by
  refine strOk_iff.mpr fun c hc => ?_
  rw [tl_text] at hc
  rcases mem_joinL _ hc with h | ⟨l, hl, h⟩
  · exact strOk_iff.mp (show PyData.strOk " " = true by decide +kernel) c h
  · obtain ⟨w, hw, rfl⟩ := List.mem_map.mp hl
    exact strOk_iff.mp (seg_ok p w hw) c h
/-- the same texts the other way round -/
theorem ord_rev {us : List PU} {L : List Str} (p : ∀ u, u ∈ us → Parts u.1 u.2) (ch : Chain (-1) us) (o : IsOrd L ((us.reverse.map txtP).map V.str)) : L = us.map txtP := by
  refine ord_unique o.inc (chain_ord p ch) fun x => ?_
  rw [o.mem]
  constructor
  · intro h
    obtain ⟨y, hy, e⟩ := List.mem_map.mp h
    cases e
    obtain ⟨u, hu, rfl⟩ := List.mem_map.mp hy
    exact List.mem_map.mpr ⟨u, List.mem_reverse.mp hu, rfl⟩
  · intro h
    obtain ⟨u, hu, rfl⟩ := List.mem_map.mp h
    exact List.mem_map.mpr ⟨_, List.mem_map.mpr ⟨u, List.mem_reverse.mpr hu, rfl⟩, rfl⟩
end

theorem gn_of {i : Nat} {v : V} {σ : L2.St} {H : Hp} {Q : L2.St → Hp → Prop} (h : Q (σ.set i (some v)) H) : gName i v σ H Q := h
theorem st_of {t : L2.TS} {D : Ends} {σ σ' : L2.St} {H : Hp} (e : σ = σ') (h : t D σ' H) : t D σ H := e ▸ h
/-- the text of units in order, as the law writes it -/
theorem line_step {K : PySem.W.Frag} {σ : L2.St} {H : Hp} {Q : VK} {i : Nat} {q : Addr} {us : List PU} {rJ : V → List V → Hp → VK → Prop} (hJ : ∀ (a : Str) (p : Addr) (ys : List Str) (H : Hp) (Q : VK), SqL K H p (ys.map V.str) → (ys.map (·.length)).sum + ys.length * a.length ≤ 16777216 → Q (.str (Txt.join a ys)) H → rJ (.str a) [.ref p] H Q)
    (vq : σ[i]? = some (some (.ref q))) (hq : H q = some (.lst ((us.map txtP).map V.str))) (pu : ∀ u, u ∈ us → Parts u.1 u.2) (few : us.length ≤ 5) (k : ∀ H', Same H H' → Q (.str (unitsLine (us.map txtP))) H') :
    tIf (tTest (tOp (rDiff K) (tVar i) (tLstN tNil))) (tBM K "str" rJ (tC (.str " , ")) (tCons (tVar i) tNil)) (tC (.str "-")) σ H Q := by
  refine ⟨_, vq, (by decide : (0 : Nat) ≤ sizeLine), fun e ne _ => .inr ⟨_, _, .lst (SqL.of (same_new ne _ _ hq)) (dpA_str _), .lst (SqL.of upd_same) .nil, shaped_str ?_, by decide +kernel, _, rfl, ?_⟩⟩
  · rw [List.all_eq_true]
    intro x hx
    obtain ⟨u, hu, rfl⟩ := List.mem_map.mp hx
    exact txt_ok (pu u hu)
  have s1 := same_new (o := .lst []) ne
  have hq1 := s1 _ _ hq
  generalize upd H e (.lst []) = H1 at s1 hq1 ⊢
  cases us with
  | nil => exact k _ s1
  | cons u us =>
    refine ⟨rfl, _, vq, hJ _ _ _ _ _ (SqL.of hq1) (join_size ?_ ?_) (k _ s1)⟩
    · rw [List.length_map]
      omega
    · intro x hx
      obtain ⟨v, hv, rfl⟩ := List.mem_map.mp hx
      exact (pu v hv).len
def someT : List Str := ["", " ", "- -", "block", "block 0 ,", "block 0 , ", "block 0 block 1", "block 0 , block 0", "page 0 , block 1", "cell 0 0", "cell 1", "journal 0"]
def lineB (x : Str) : Bool := let ws := Txt.split x " "; !ws.isEmpty && (decide (ws.length ≤ 100) && (ws.all (fun y => decide (y.length ≤ 50) && (PyData.strOk y && decide ((32 : Nat) ∉ TL.tl y))) && ((wrongR ws).isSome && decide (x.length ≤ 100))))
theorem lines_bad : (someT.all lineB) = true := by decide +kernel
theorem line_bad {x : Str} (h : x ∈ someT) : Txt.split x " " ≠ [] ∧ (Txt.split x " ").length ≤ 100 ∧ (∀ y, y ∈ Txt.split x " " → y.length ≤ 50 ∧ PyData.strOk y = true ∧ (32 : Nat) ∉ TL.tl y) ∧ (wrongR (Txt.split x " ")).isSome = true ∧ x.length ≤ 100 := by
  have z := List.all_eq_true.mp lines_bad x h
  unfold lineB at z
  simp only [Bool.and_eq_true, decide_eq_true_eq, List.all_eq_true, Bool.not_eq_true', List.isEmpty_eq_false_iff] at z
  exact z
/-- _law_texts_right(pen) -/
def spLTexts (TS : List (Addr × Str)) : Sp := fun vs H Q _ => ∃ (p l : Addr) (ns : List Int) (a r : Int), vs = [.ref p] ∧ PenAt H p l ns a r ∧ a ≤ 80000 ∧ LamX.Tabs TS H ∧ ∀ H', Q (.bl true) H'
section
variable {P : Program} {w : World} {K : PySem.W.Frag} {mg : Str → Option Value} {base : Heap} {fd : FuncData}
theorem ok_law_texts_right {TS : List (Addr × Str)} {PT : Addr} (T : Top w K mg) (fL : PySem.W.findIn K (.ref (ca K 4)) "line" = some none) (fW : PySem.W.findIn K (.ref (ca K 4)) "word" = some none) (D_law_pick : Def P w K mg base "_law_pick" 2 ["_law_pen_here", "_law_some"] spPick) (D_law_row_units : Def P w K mg base "_law_row_units" 3 ["_law_pen_here"] spLRowUnits)
    (D_law_row_bent : Def P w K mg base "_law_row_bent" 3 ["_law_pen_here", "_law_words"] spLRowBent) (D_law_row_right : DefG P w K mg base "_law_row_right" 13 ["_law_words"] (spLRowRight TS)) (D_law_wrong : Def P w K mg base "_law_wrong" 2 ["_law_words"] spLWrong) (D_read_units : DefX (L2.CX P w) P w K mg base "read_units" 10 ["text"] (spRead K)) (D_units_text : DefX (L2.CX P w) P w K mg base "units_text" 8 ["units"] (spUnitsText K))
    (L_law_read_heard : LamD K mg "_law_read_heard" "_law_ask" s_law_read_heard) (TB : LamX.TabB base mg (He.codeOf K ("_law_texts_right", none)) PT) (hm : (PT, qTexts) ∈ TS) (hq : ∀ p ∈ TS, p.1 = PT → p.2 = qTexts) (F : Fn K "_law_texts_right" s_law_texts_right fd) : FnG P w K mg base CX0 14 (He.ga K "_law_texts_right") fd ["_law_pen_here"] (spLTexts TS) := by
  refine okGC (p := ("_law_texts_right", none)) F sc_law_texts_right (fun vs H Q E h => ?_) (fun A outer s H vs Q E hgu hr h => ?_)
  · obtain ⟨p, l, ns, a, r, rfl, _⟩ := h
    rfl
  · obtain ⟨p, l, ns, a, r, rfl, pa, ha, tabs, k⟩ := h
    have hu := hr.units
    have two : (2 : Nat) ≤ sizeLine := by decide
    refine ⟨_, PSs.nox (pss_cons (ps_for PassesOwn.never rfl (pi_range1 rfl T.n_range (pa_cons pe_int pa_nil)) (pg_name (i := 1) sc_law_texts_right.nd rfl (by first | exact Or.inl rfl | exact Or.inr rfl)) (pss_cons (ps_set (i := 3) sc_law_texts_right.nd rfl (by first | exact Or.inl rfl | exact Or.inr rfl) (pe_callD D_law_row_units (hr.mono (by decide)) rfl (pa_cons (pv 0) pa_nil)))
      (pss_cons (ps_set (i := 4) sc_law_texts_right.nd rfl (by first | exact Or.inl rfl | exact Or.inr rfl) (pe_ifExp (pt_cmpR (op_diff hu) (pv 3) (pe_lstN pa_nil) (nomark _)) (pe_bm PySem.F.plainAttrs_str PySem.F.slot_str_join PySem.F.type_str_join mt_join pe_str (pa_cons (pv 3) pa_nil)) pe_str))
      (pss_cons (ps_if (PW.pt (pw_or (pt_cmpR (op_diff hu) (pe_callXK D_read_units (hr.mono (by decide)) rfl pass_E0 (pv 4)) (pe_callTy call_tuple_of rfl T.n_tuple (by decide +kernel) (pa_cons (pv 3) pa_nil)) (nomark _)) (pw_or1 (pt_cmpR (op_diff hu) (pe_callX D_units_text (hr.mono (by decide)) rfl pass_E0 (pa_cons (pe_revL (pv 3)) pa_nil)) (pv 4) (nomark _))))) (pss_one (ps_ret pe_bl)) pss_nil)
      (pss_cons (ps_for PassesOwn.never rfl (pi_range1 rfl T.n_range (pa_cons pe_int pa_nil)) (pg_name (i := 5) sc_law_texts_right.nd rfl (by first | exact Or.inl rfl | exact Or.inr rfl)) (pss_cons (ps_set (i := 7) sc_law_texts_right.nd rfl (by first | exact Or.inl rfl | exact Or.inr rfl) (pe_callD D_law_row_bent (hr.mono (by decide)) rfl (pa_cons (pv 0) (pa_cons (pe_bm PySem.F.plainAttrs_str PySem.F.slot_str_split PySem.F.type_str_split mt_split (pv 4) (pa_cons pe_str pa_nil)) pa_nil))))
      (pss_one (ps_if (PW.pt (pw_or (pt_not (pt_val (pe_callDG D_law_row_right hgu (hr.mono (by decide)) rfl (pa_cons (pv 7) pa_nil)))) (pw_or1 (pt_not (pt_val (pe_callDG D_law_row_right hgu (hr.mono (by decide)) rfl (pa_cons (pe_callD D_law_row_bent (hr.mono (by decide)) rfl (pa_cons (pv 0) (pa_cons (pv 7) pa_nil))) pa_nil))))))) (pss_one (ps_ret pe_bl)) pss_nil))))
      (pss_cons (ps_set (i := 6) sc_law_texts_right.nd rfl (by first | exact Or.inl rfl | exact Or.inr rfl) (pe_callD D_law_pick (hr.mono (by decide)) rfl (pa_cons (pv 0) (pa_cons (pe_lstN (pa_cons pe_non (pa_cons pe_int (pa_cons pe_bl (pa_cons (pe_lstN (pa_cons (pv 4) pa_nil)) (pa_cons (pe_tup (pa_cons (pv 4) pa_nil)) (pa_cons pe_dnewK (pa_cons (pe_op op_pow pe_int pe_int) pa_nil)))))))) pa_nil))))
      (pss_one (ps_if (pt_cmpR (op_diff hu) (pe_lamX (k := 10) L_law_read_heard rfl sc_law_read_heard rfl (Or.inl rfl) (fun g cdg => read_heard_gives T fL fW hgu (hr.mono (by decide))) TB rfl hm hq (hr.mono (by decide)) (LamX.lamS_by (sc := defScope s_law_texts_right) (by decide +kernel)) rfl (fun _ _ _ _ _ => rfl) (fun A2 o2 s2 H2 E2 f2 c2 hr2 => (pe_callX D_read_units (hr2.mono (by decide)) rfl (passes_call (takes_of rfl rfl rfl rfl) (fun _ _ _ _ h => h)) (pa_cons (pv 6) pa_nil)))) (pe_tup (pa_cons pe_str (pa_cons pe_int (pa_cons pe_int pa_nil)))) (nomark _)) (pss_one (ps_ret pe_bl)) pss_nil))))))))
      (pss_cons (ps_set (i := 2) sc_law_texts_right.nd rfl (by first | exact Or.inl rfl | exact Or.inr rfl) (pe_lstN (pa_cons pe_str (pa_cons pe_str (pa_cons pe_str (pa_cons pe_str (pa_cons pe_str (pa_cons pe_str (pa_cons pe_str (pa_cons pe_str (pa_cons pe_str (pa_cons pe_str (pa_cons pe_str (pa_cons pe_str pa_nil))))))))))))))
      (pss_one (ps_ret (pe_cmpR (op_same hu) (pe_lc (own := [("_law_line", 4)]) (g := gName 4) (te := tVar 4) (tt := tOr (tTest (tOp rIsN (tCall spLWrong [] E0 (tCons (tBM K "str" rSplit (tVar 4) (tCons (tC (.str " ")) tNil)) tNil)) (tC .non))) (tNot (tB (tCall (spLRowRight TS) [] E0 (tCons (tBM K "str" rSplit (tVar 4) (tCons (tC (.str " ")) tNil)) tNil))))) (by rfl) sc_law_texts_right.nd (pi_list (pv 2)) (blkOk_by (own := [("_law_line", 4)]) (N := ["_law_pen_here", "_law_again", "_law_some", "_law_units", "_law_line", "_law_turn", "_law_odd", "_law_words"]) (sc := defScope s_law_texts_right) (by decide +kernel)) (fun _ _ _ _ _ => by exact (pg_name (i := 4) sc_law_texts_right.nd rfl (by first | exact Or.inl rfl | exact Or.inr rfl))) (fun _ _ _ _ _ => by exact (pts_one (PW.pt (pw_or (pt_cmpR op_isN (pe_callD D_law_wrong (hr.mono (by decide)) rfl (pa_cons (pe_bm PySem.F.plainAttrs_str PySem.F.slot_str_split PySem.F.type_str_split mt_split (pv 4) (pa_cons pe_str pa_nil)) pa_nil)) pe_non (nomark _)) (pw_or1 (pt_not (pt_val (pe_callDG D_law_row_right hgu (hr.mono (by decide)) rfl (pa_cons (pe_bm PySem.F.plainAttrs_str PySem.F.slot_str_split PySem.F.type_str_split mt_split (pv 4) (pa_cons pe_str pa_nil)) pa_nil))))))))) (fun _ _ _ _ _ => by exact (pv 4))) (pe_lstN pa_nil) (nomark _)))))), ?_⟩
    refine ⟨9, rfl, by decide, by decide, ?_⟩
    refine for_range (fun i σ H => ∃ x1 x2 x3 x4 x5 x6 x7, σ = [some (.ref p), x1, x2, x3, x4, x5, x6, x7] ∧ ∃ a' r', PenAt H p l ns a' r' ∧ a' ≤ a + 41 * i ∧ LamX.Tabs TS H) ⟨_, _, _, _, _, _, _, rfl, a, r, pa, by omega, tabs⟩ (fun i σ H1 hi y => ?_) (fun σ H1 y => ?_)
    · obtain ⟨x1, x2, x3, x4, x5, x6, x7, rfl, a1, r1, p1, l1, t1⟩ := y
      with_reducible refine gn_of ?_
      with_reducible refine st_of (σ' := [some (.ref p), some (.int (0 + (i : Int))), x2, x3, x4, x5, x6, x7]) rfl ?_
      with_reducible refine set_of ?_
      refine ⟨_, rfl, p, l, ns, a1, r1, rfl, p1, by omega, fun H2 a2 r2 q us k2 p2 l2 hq2 qp few pu ch => ?_⟩
      have t2 := tabs_keep t1 p1.pen k2
      show tSeq _ _ _ [some (.ref p), some (.int (0 + (i : Int))), x2, some (.ref q), x4, x5, x6, x7] _
      with_reducible refine set_of ?_
      with_reducible refine line_step ?_ ?_ hq2 pu few ?_
      · exact fun a p ys H Q h1 h2 h3 => ⟨a, p, ys, rfl, rfl, .inl h1, h2, h3⟩
      · rfl
      intro H3 s3
      have hq3 := s3 _ _ hq2
      have p3 := p2.same s3
      have t3 := tabs_same t2 s3
      have fewL : (us.map txtP).length ≤ 60 := by
        rw [List.length_map]
        omega
      have okL : ((us.map txtP).all fun x => PyData.strOk x) = true := by
        rw [List.all_eq_true]
        intro x hx
        obtain ⟨u, hu, rfl⟩ := List.mem_map.mp hx
        exact txt_ok (pu u hu)
      have fewW := words_few us pu
      have plW := words_plain pu
      have shW : ∀ y, y ∈ wordsOf us → y.length ≤ 50 := fun y hy => Nat.le_trans (plW y hy).2 (by decide)
      have lenL : (unitsLine (us.map txtP)).length ≤ 2000 := by
        have z := line_len (m := 21) (ws := wordsOf us) (by omega) shW
        rw [line_of] at z
        omega
      have spl := split_line pu
      generalize hl : unitsLine (us.map txtP) = line at lenL spl ⊢
      have cut : ∀ {J : Hp} {R : VK}, rSplit (.str line) [.str " "] J R ↔ ∀ w, J w = none → R (.ref w) (upd J w (.lst ((wordsOf us).map V.str))) := by
        intro J R
        rw [← spl]
        refine ⟨fun h => ?_, fun h => ⟨_, _, rfl, rfl, by decide +kernel, by rw [sizeLine_eq]; omega, h⟩⟩
        obtain ⟨a, b, e1, e2, _, _, h⟩ := h
        cases e1
        cases e2
        exact h
      with_reducible refine seq_of ?_
      refine ⟨_, rfl, _, rfl, fun _ _ => kinds_str _, by omega, ?_⟩
      rw [spl]
      refine ⟨by omega, shW, ?_⟩
      rw [read_of pu ch]
      intro H4 tp s4 ht4
      have hq4 := s4 _ _ hq3
      refine ⟨_, rfl, q, _, rfl, .inl ⟨SqL.of hq4, fun tq n5 => ?_⟩⟩
      have s5 := same_new (o := .tup ((us.map txtP).map V.str)) n5
      have shT : SeqAt.shaped (.tuple ((us.map txtP).map PyData.str)) = true := by
        refine shaped_by ?_ ?_
        · simp only [PyData.canLay0]
          exact lay_str _ okL
        · simp only [PyData.depth]
          have := deep_str (us.map txtP)
          omega
      refine .inr ⟨_, _, .tup (SqT.of (s5 _ _ ht4)) (dpA_str _), .tup (SqT.of upd_same) (dpA_str _), shT, shT, _, rfl, ?_⟩
      refine ite2 (fun c => absurd c (by rw [same_data shT]; decide)) (fun _ => ?_)
      have hq5 := s5 _ _ hq4
      have s35 := s4.trans s5
      generalize upd H4 tq (.tup ((us.map txtP).map V.str)) = H5 at hq5 s35 ⊢
      refine ⟨_, rfl, q, _, rfl, SqL.of hq5, fun rv n6 => ?_⟩
      have s6 := same_new (o := .lst ((us.map txtP).map V.str).reverse) n6
      have hrv : upd H5 rv (.lst ((us.map txtP).map V.str).reverse) rv = some (.lst ((us.reverse.map txtP).map V.str)) := by
        rw [upd_same, List.map_reverse, List.map_reverse]
      generalize upd H5 rv (.lst ((us.map txtP).map V.str).reverse) = H6 at s6 hrv ⊢
      have pr : ∀ u, u ∈ us.reverse → Parts u.1 u.2 := fun u hu => pu u (List.mem_reverse.mp hu)
      refine ⟨.ref rv, rfl, .inl ⟨rv, _, rfl, texts_lst hrv (by rw [List.length_map, List.length_reverse]; omega) (fun x hx => by
        obtain ⟨u, hu, rfl⟩ := List.mem_map.mp hx
        exact (pr u hu).len), ?_⟩⟩
      unfold OrdOkT
      rw [firstNo_texts pr]
      intro L' H7 ord s7
      have el : unitsLine L' = line := by rw [ord_rev pu ch ord, hl]
      rw [el]
      refine ⟨_, rfl, .inl ⟨rfl, _, rfl, ?_⟩⟩
      refine ite2 (fun c => absurd c (by simp)) (fun _ => ?_)
      have s37 := s35.trans (s6.trans s7)
      have p7 := p3.same s37
      have t7 := tabs_same t3 s37
      show tSeq _ _ _ [some (.ref p), some (.int (0 + (i : Int))), x2, some (.ref q), some (.str line), x5, x6, x7] H7
      with_reducible refine seq_of ?_
      refine ⟨4, rfl, by decide, by decide, ?_⟩
      refine for_range (fun j σ H => ∃ y5 y6 y7, σ = [some (.ref p), some (.int (0 + (i : Int))), x2, some (.ref q), some (.str line), y5, y6, y7] ∧ ∃ a' r', PenAt H p l ns a' r' ∧ a' ≤ a2 + 6 * j ∧ LamX.Tabs TS H) ⟨_, _, _, rfl, a2, r2, p7, by omega, t7⟩ (fun j σ J1 hj y => ?_) (fun σ J1 y => ?_)
      · obtain ⟨y5, y6, y7, rfl, b1, q1, pj, lj, tj⟩ := y
        with_reducible refine gn_of ?_
        with_reducible refine st_of (σ' := [some (.ref p), some (.int (0 + (i : Int))), x2, some (.ref q), some (.str line), some (.int (0 + (j : Int))), y6, y7]) rfl ?_
        with_reducible refine set_of ?_
        refine ⟨_, rfl, _, rfl, rfl, cut.mpr fun w nw => ?_⟩
        have sw := same_new (o := .lst ((wordsOf us).map V.str)) nw
        have wp : w ≠ p := (ne_of_none pj.pen nw).symm
        refine ⟨p, l, w, ns, b1, q1, wordsOf us, 21, rfl, pj.same sw, by omega, ⟨⟨upd_same, words_ne us, by omega, shW, words_ok pu⟩, fun y hy => (plW y hy).1, wp⟩, by decide, fun J2 b2 q2 wq ws2 k2' pj2 lj2 rp2 => ?_⟩
        have tj2 := tabs_keep (tabs_same tj sw) (pj.same sw).pen k2'
        show tIfS _ _ _ _ [some (.ref p), some (.int (0 + (i : Int))), x2, some (.ref q), some (.str line), some (.int (0 + (j : Int))), y6, some (.ref wq)] J2
        refine ⟨_, rfl, wq, ws2, rfl, rp2.row.more (by decide), rp2.plain, tj2, fun J3 e3 tj3 => ⟨true, rfl, ?_⟩⟩
        refine ite2 (fun c => absurd c (by decide)) (fun _ => ?_)
        have pj3 := pen_ext pj2 e3
        have rp3 := rp2.ext e3
        refine ⟨_, rfl, _, rfl, p, l, wq, ns, b2, q2, ws2, 43, rfl, pj3, by omega, rp3, by decide, fun J4 b4 q4 wr ws4 k4 pj4 lj4 rp4 => ?_⟩
        have tj4 := tabs_keep tj3 pj3.pen k4
        refine ⟨wr, ws4, rfl, rp4.row.more (by decide), rp4.plain, tj4, fun J5 e5 tj5 => ⟨true, rfl, ?_⟩⟩
        refine ite2 (fun c => absurd c (by decide)) (fun _ => ?_)
        exact ⟨_, _, _, rfl, b4, q4, pen_ext pj4 e5, by omega, tj5⟩
      · obtain ⟨y5, y6, y7, rfl, b1, q1, pj, lj, tj⟩ := y
        with_reducible refine set_of ?_
        refine (pick_by (i := 0) (C := fun H v => (∃ d, Odd H p v d) ∧ ∀ x, v ≠ .str x) rfl pj (by omega) (fun R hR => ?_) fun J2 b2 q2 odd k2' pj2 lj2 cO => ?_)
        · refine ⟨_, rfl, (by decide : (1 : Nat) ≤ sizeLine), fun l0 nl ml => ?_⟩
          have m1 := same_new (o := .lst [.str line]) nl
          have lp : l0 ≠ p := (ne_of_none pj.pen nl).symm
          refine ⟨_, rfl, (by decide : (1 : Nat) ≤ sizeLine), fun tu nt => fun dd nd => ⟨_, _, rfl, rfl, c30, ?_⟩⟩
          have m2 := same_new (o := .tup [.str line]) nt
          have tp' : tu ≠ p := (ne_of_none (m1 _ _ pj.pen) nt).symm
          have m3 := same_new (o := .dK []) nd
          have dp : dd ≠ p := (ne_of_none (m2 _ _ (m1 _ _ pj.pen)) nd).symm
          refine hR _ _ ((m1.trans m2).trans m3) (Nat.zero_lt_succ _) (by show 7 < 1000; decide) fun v mv H' kp => ?_
          simp only [List.mem_cons, List.not_mem_nil, or_false] at mv
          rcases mv with rfl | rfl | rfl | rfl | rfl | rfl | rfl
          · exact ⟨⟨_, .non⟩, fun _ z => nomatch z⟩
          · exact ⟨⟨_, .int 0⟩, fun _ z => nomatch z⟩
          · exact ⟨⟨_, .bl true⟩, fun _ z => nomatch z⟩
          · exact ⟨⟨_, .l1 line (kp _ _ lp (m3 _ _ (m2 _ _ upd_same))) lp ml⟩, fun _ z => nomatch z⟩
          · exact ⟨⟨_, .ts line (kp _ _ tp' (m3 _ _ upd_same)) tp'⟩, fun _ z => nomatch z⟩
          · exact ⟨⟨_, .d0 (kp _ _ dp upd_same) dp⟩, fun _ z => nomatch z⟩
          · exact ⟨⟨_, .int _⟩, fun _ z => nomatch z⟩
        obtain ⟨⟨dO, oO⟩, nS⟩ := cO
        have tj2 := tabs_keep tj pj.pen k2'
        show tIfS _ _ _ _ [some (.ref p), some (.int (0 + (i : Int))), x2, some (.ref q), some (.str line), y5, some odd, y7] J2
        refine read_step tj2 (fun R H' e h => ⟨_, rfl, h⟩) nS (fun H' e => (oO.ext e).kinds) fun J3 ta e3 tj3 hta => ?_
        refine ⟨(by decide : (3 : Nat) ≤ sizeLine), fun tb nb => ?_⟩
        have m4 := same_new (o := .tup [.str "text", .int 0, .int 0]) nb
        refine .inr ⟨_, _, .tup (SqT.of (m4 _ _ hta)) (.cons (.str _) (.cons (.int _) (.cons (.int _) .nil))), .tup (SqT.of upd_same) (.cons (.str _) (.cons (.int _) (.cons (.int _) .nil))), shaped_heard 0, shaped_heard 0, _, rfl, ?_⟩
        refine ite2 (fun c => absurd c (by rw [same_data (shaped_heard 0)]; decide)) (fun _ => ?_)
        exact ⟨_, _, _, _, _, _, _, rfl, b2, q2, pen_ext pj2 (e3.trans (ext_same m4)), by omega, tabs_same tj3 m4⟩
    · obtain ⟨x1, x2, x3, x4, x5, x6, x7, rfl, a1, r1, p1, l1, t1⟩ := y
      with_reducible refine set_of ?_
      refine ⟨(by decide : (12 : Nat) ≤ sizeLine), fun ls nls _ => ?_⟩
      have s2 := same_new (o := .lst (someT.map V.str)) nls
      show tRet _ _ [some (.ref p), x1, some (.ref ls), x3, x4, x5, x6, x7] (upd H1 ls (.lst (someT.map V.str)))
      have hls : upd H1 ls (.lst (someT.map V.str)) ls = some (.lst (someT.map V.str)) := upd_same
      have t2 := tabs_same t1 s2
      generalize upd H1 ls (.lst (someT.map V.str)) = H2 at hls t2 ⊢
      refine ⟨_, rfl, ls, rfl, ⟨_, SqL.of hls⟩, fun D nD => ?_⟩
      refine lc_list (xs := someT.map V.str) (fun _ H => H ls = some (.lst (someT.map V.str)) ∧ H D = some (.lst []) ∧ LamX.Tabs TS H) ⟨same_new nD _ _ hls, upd_same, tabs_same t2 (same_new nD)⟩ (fun _ H _ h => SqL.of h.1) (fun i x J hx h => ?_) (fun J h => ?_)
      · obtain ⟨h1, h2, h3⟩ := h
        obtain ⟨t, ht, rfl⟩ := List.mem_map.mp (List.mem_of_getElem? hx)
        obtain ⟨b1, b2, b3, b4, b5⟩ := line_bad ht
        have ct : ∀ {J : Hp} {R : VK}, (∀ w, J w = none → R (.ref w) (upd J w (.lst ((Txt.split t " ").map V.str)))) → rSplit (.str t) [.str " "] J R := fun h => ⟨_, _, rfl, rfl, by decide +kernel, by rw [sizeLine_eq]; omega, h⟩
        refine ⟨rfl, ?_⟩
        refine ⟨_, rfl, rfl, ct fun w nw => ?_⟩
        have m1 := same_new (o := .lst ((Txt.split t " ").map V.str)) nw
        refine ⟨w, _, rfl, ⟨upd_same, b1, by omega, fun y hy => (b3 y hy).1, fun y hy => (b3 y hy).2.1⟩, fun J2 s2' => ?_⟩
        have s3' := m1.trans s2'
        refine ⟨rfl, _, rfl, ?_⟩
        obtain ⟨j, ej⟩ := Option.isSome_iff_exists.mp b4
        rw [ej]
        refine ite2 (fun c => absurd (of_decide_eq_true c) (fun z => by cases z)) (fun _ => ?_)
        refine ⟨_, rfl, rfl, ct fun w2 nw2 => ?_⟩
        have m2 := same_new (o := .lst ((Txt.split t " ").map V.str)) nw2
        refine ⟨w2, _, rfl, ⟨upd_same, b1, b2, fun y hy => (b3 y hy).1, fun y hy => (b3 y hy).2.1⟩, fun y hy => (b3 y hy).2.2, tabs_same h3 (s3'.trans m2), fun J3 e3 tj3 => ⟨true, rfl, ?_⟩⟩
        refine ite2 (fun c => absurd c (by decide)) (fun _ => ?_)
        have e := (ext_same (s3'.trans m2)).trans e3
        exact ⟨e _ _ h1 (fun _ z => nomatch z), e _ _ h2 (fun _ z => nomatch z), tj3⟩
      · obtain ⟨h1, h2, h3⟩ := h
        refine ⟨(by decide : (0 : Nat) ≤ sizeLine), fun e ne _ => .inr ⟨.list [], .list [], .lst (SqL.of (same_new ne _ _ h2)) .nil, .lst (SqL.of upd_same) .nil, by decide +kernel, by decide +kernel, ?_⟩⟩
        rw [same_data (by decide +kernel)]
        exact k _
end
end L2.K32
set_option Elab.async false
set_option linter.all false
set_option maxRecDepth 100000
set_option maxHeartbeats 4000000
/-! Units are texts with an order of their own. -/
namespace L2.K32
open PySem PySem.Spec PyProof.Rows L2.RV
def qUnits : Str := "_law_units_right.<locals>.<lambda>"
def rTupOf (K : PySem.W.Frag) : List V → Hp → VK → Prop := fun xs H Q => ∃ p ys, xs = [.ref p] ∧ ((SqL K H p ys ∧ ∀ l, H l = none → Q (.ref l) (upd H l (.tup ys))) ∨ (SqT K H p ys ∧ Q (.ref p) H))
theorem Keep.refl' {p : Addr} {H : Hp} : Keep p H H := Keep.refl
/-- what a loop lays into a list D: for the n-th thing one value, of which R tells -/
theorem map_lc {K : PySem.W.Frag} {te0 te : TE} {σ : L2.St} {H : Hp} {Q : VK} {j : Nat} {xs : List V} {G : Hp → Hp → Prop} {M : Nat → Hp → Prop} {R : Addr → Nat → V → Hp → Prop} (few : xs.length ≤ 1000)
    (src : ∀ C : VK, (∀ q H1, Same H H1 → H1 q = some (.lst xs) → C (.ref q) H1) → te0 σ H C)
    (R_keep : ∀ D n v H1 H2, Keep D H1 H2 → R D n v H1 → R D n v H2)
    (step : ∀ D n x H' (C : VK), Same H H' → (∃ acc, H' D = some (.lst acc)) → xs[n]? = some x → (∀ v H2, Same H' H2 → R D n v H2 → C v H2) → te ((wipe σ [j]).set j (some x)) H' C)
    (k : ∀ H' D vs, Same H H' → H' D = some (.lst vs) → vs.length = xs.length → (∀ n v, vs[n]? = some v → R D n v H') → Q (.ref D) H') :
    tLc (iList K te0) (gName j) tYes te [j] σ H Q := by
  refine src _ fun q H1 s1 hq => ⟨q, rfl, ⟨_, SqL.of hq⟩, fun D nD => ?_⟩
  refine lc_list (xs := xs) (fun n H' => Same H1 H' ∧ ∃ vs, H' D = some (.lst vs) ∧ vs.length = n ∧ ∀ i v, vs[i]? = some v → R D i v H') ⟨same_new nD, [], upd_same, rfl, fun i v h => by cases h⟩ (fun n H' _ p => SqL.of (p.1 _ _ hq)) (fun n x H' hx pv => ?_) (fun H' pv => ?_)
  · obtain ⟨s2, vs, hD, lv, hR⟩ := pv
    have lt : n < xs.length := by
      rcases Nat.lt_or_ge n xs.length with z | z
      · exact z
      · rw [List.getElem?_eq_none z] at hx
        cases hx
    refine ⟨by simp only [wipe, List.set_set], ?_⟩
    simp only [tYes, ↓reduceIte]
    refine step D n x H' _ (s1.trans s2) ⟨vs, hD⟩ hx fun v H2 s3 r => ?_
    have hD2 := s3 _ _ hD
    refine ⟨vs, hD2, by rw [sizeLine_eq]; omega, same_updN (s2.trans s3) nD, vs ++ [v], upd_same, by rw [List.length_append, lv]; rfl, fun i u hi => ?_⟩
    rcases Nat.lt_or_ge i vs.length with z | z
    · rw [List.getElem?_append_left z] at hi
      exact R_keep _ _ _ _ _ ((Keep.of s3).trans Keep.upd) (hR i u hi)
    · rw [List.getElem?_append_right z] at hi
      have e : i = n ∧ u = v := by
        cases w : i - vs.length with
        | zero =>
          rw [w] at hi
          cases hi
          exact ⟨by omega, rfl⟩
        | succ m =>
          rw [w] at hi
          cases hi
      rw [e.1, e.2]
      exact R_keep _ _ _ _ _ Keep.upd r
  · obtain ⟨s2, vs, hD, lv, hR⟩ := pv
    exact k H' D vs (s1.trans s2) hD lv hR
/-- the same, where each value is told by the thing alone -/
theorem mapv_lc {K : PySem.W.Frag} {te0 te : TE} {σ : L2.St} {H : Hp} {Q : VK} {j : Nat} {xs : List V} (f : Nat → V) (few : xs.length ≤ 1000)
    (src : ∀ C : VK, (∀ q H1, Same H H1 → H1 q = some (.lst xs) → C (.ref q) H1) → te0 σ H C)
    (step : ∀ n x H' (C : VK), Same H H' → xs[n]? = some x → (∀ H2, Same H' H2 → C (f n) H2) → te ((wipe σ [j]).set j (some x)) H' C)
    (k : ∀ H' D, Same H H' → H' D = some (.lst ((List.range xs.length).map f)) → Q (.ref D) H') :
    tLc (iList K te0) (gName j) tYes te [j] σ H Q := by
  refine map_lc (G := fun _ _ => True) (M := fun _ _ => True) (R := fun _ n v _ => v = f n) few src (fun _ _ _ _ _ _ r => r) (fun D n x H' C s _ hx h => step n x H' C s hx fun H2 s2 => h _ _ s2 rfl) fun H' D vs s hD lv hR => k H' D s ?_
  rw [hD]
  congr 2
  refine List.ext_getElem? fun i => ?_
  rcases Nat.lt_or_ge i xs.length with z | z
  · have z' : i < vs.length := by omega
    rw [List.getElem?_eq_getElem z', List.getElem?_map, List.getElem?_range z]
    have := hR i _ (List.getElem?_eq_getElem z')
    rw [this]
    rfl
  · rw [List.getElem?_eq_none (by omega), List.getElem?_eq_none (by rw [List.length_map, List.length_range]; exact z)]

theorem dpA_at {K : PySem.W.Frag} {H : Hp} : ∀ {vs : List V} {ds : List PyData}, vs.length = ds.length → (∀ (n : Nat) (v : V) (d : PyData), vs[n]? = some v → ds[n]? = some d → Dp K H v d) → DpAll K H vs ds
  | [], [], _, _ => .nil
  | [], _ :: _, e, _ => by cases e
  | _ :: _, [], e, _ => by cases e
  | v :: vs, d :: ds, e, h => .cons (h 0 v d rfl rfl) (dpA_at (Nat.succ.inj e) fun n v' d' h1 h2 => h (n + 1) v' d' h1 h2)
theorem lc_src {K : PySem.W.Frag} {te0 te : TE} {tt : TT} {g : TG} {σ : L2.St} {H : Hp} {Q : VK} {vs : List Nat} {PP : Addr → Hp → Prop} (src : ∀ C : VK, (∀ q H1, PP q H1 → C (.ref q) H1) → te0 σ H C)
    (h : ∀ q H1, PP q H1 → tLc (iList K (tC (.ref q))) g tt te vs σ H1 Q) : tLc (iList K te0) g tt te vs σ H Q := src _ fun q H1 pp => h q H1 pp
/-- [_law_text(u) for u in ..], [_law_made(u) for u in ..] -/
theorem texts_lc {K : PySem.W.Frag} {σ : L2.St} {H : Hp} {Q : VK} {p q : Addr} {us : List LU} {vs : List Nat} (hvs : vs = [11]) (l11 : 11 < σ.length) (hq : H q = some (.lst (us.map (·.1)))) (few : us.length ≤ 60) (au : AllU H p us) (k : ∀ H' D, Same H H' → H' D = some (.lst ((us.map txt).map V.str)) → Q (.ref D) H') :
    tLc (iList K (tC (.ref q))) (gName 11) tYes (tCall spLText [] E0 (tCons (tVar 11) tNil)) vs σ H Q := by
  subst hvs
  refine mapv_lc (xs := us.map (·.1)) (fun n => .str (match us[n]? with | some u => txt u | none => "")) (by rw [List.length_map]; omega) (fun C h => h q H (fun _ _ z => z) hq) (fun n x H' C s1 hx h => ?_) fun H' D s1 hD => k H' D s1 ?_
  · rw [List.getElem?_map] at hx
    obtain ⟨u, hu, rfl⟩ := Option.map_eq_some_iff.mp hx
    have mem := List.mem_of_getElem? hu
    refine ⟨_, List.getElem?_set_self (by simp only [wipe, List.length_set]; exact l11), p, u.1, u.2.1, u.2.2, rfl, (au.at_ u mem).keep (Keep.of s1), au.ok u mem, fun H2 s2 => ?_⟩
    have z := h H2 s2
    rw [hu] at z
    exact z
  · rw [hD]
    congr 2
    refine List.ext_getElem? fun i => ?_
    rw [List.length_map, List.map_map]
    rcases Nat.lt_or_ge i us.length with z | z
    · rw [List.getElem?_map, List.getElem?_range z, List.getElem?_map, List.getElem?_eq_getElem z]
      show some (V.str (match us[i]? with | some u => txt u | none => "")) = _
      rw [List.getElem?_eq_getElem z]
      rfl
    · rw [List.getElem?_eq_none (by rw [List.length_map, List.length_range]; exact z), List.getElem?_eq_none (by rw [List.length_map]; exact z)]
/-- [t for t in texts if not is_unit(t)] -/
theorem units_all {K K' : PySem.W.Frag} {σ : L2.St} {H : Hp} {Q : VK} {q : Addr} {L : List Str} {vs : List Nat} (hK : K' = K) (hvs : vs = [6]) (l6 : 6 < σ.length) (v4 : σ[4]? = some (some (.ref q))) (hq : H q = some (.lst (L.map V.str))) (hU : ∀ x, x ∈ L → unitV (.str x) = true ∧ x.length ≤ 50)
    (k : ∀ H' D, Same H H' → H' D = some (.lst []) → Q (.ref D) H') : tLc (iList K' (tVar 4)) (gName 6) (tNot (tB (tCall (spUnit K) [] E0 (tCons (tVar 6) tNil)))) (tVar 6) vs σ H Q := by
  subst hK hvs
  refine ⟨_, v4, q, rfl, ⟨_, SqL.of hq⟩, fun D nD => ?_⟩
  refine lc_list (xs := L.map V.str) (fun n H' => Same H H' ∧ H' D = some (.lst [])) ⟨same_new nD, upd_same⟩ (fun n H' _ p => SqL.of (p.1 _ _ hq)) (fun n x H' hx pv => ?_) (fun H' pv => k H' D pv.1 pv.2)
  rw [List.getElem?_map] at hx
  obtain ⟨t, ht, rfl⟩ := Option.map_eq_some_iff.mp hx
  obtain ⟨u1, u2⟩ := hU t (List.mem_of_getElem? ht)
  refine ⟨by simp only [wipe, List.set_set], ?_⟩
  refine ⟨_, List.getElem?_set_self (by simp only [wipe, List.length_set]; exact l6), _, rfl, kinds_str _, fun y e => by cases e; exact u2, fun H2 s2 => ⟨_, rfl, ?_⟩⟩
  rw [u1]
  exact ⟨pv.1.trans s2, s2 _ _ pv.2⟩
/-- a word and the tuple of its numbers -/
def PairR (us : List LU) (D : Addr) (n : Nat) (v : V) (H : Hp) : Prop := ∃ u t l, us[n]? = some u ∧ v = .ref t ∧ H t = some (.tup [.str u.2.1, .ref l]) ∧ H l = some (.tup (u.2.2.map V.int)) ∧ t ≠ D ∧ l ≠ D
theorem pair_keep {us : List LU} (D : Addr) (n : Nat) (v : V) (H1 H2 : Hp) (k : Keep D H1 H2) (r : PairR us D n v H1) : PairR us D n v H2 := by
  obtain ⟨u, t, l, a, b, c, d, e, f⟩ := r
  exact ⟨u, t, l, a, b, k _ _ e c, k _ _ f d, e, f⟩
def pairD (u : LU) : PyData := .tuple [.str u.2.1, .tuple (u.2.2.map PyData.int)]
theorem pairs_dp {K : PySem.W.Frag} {H : Hp} {us : List LU} {D : Addr} {vs : List V} (l : vs.length = us.length) (h : ∀ n v, vs[n]? = some v → PairR us D n v H) : DpAll K H vs (us.map pairD) := by
  refine dpA_at (by rw [List.length_map]; exact l) fun n v d hv hd => ?_
  obtain ⟨u, t, l, a, rfl, c, d', _, _⟩ := h n v hv
  rw [List.getElem?_map, a] at hd
  cases hd
  exact .tup (SqT.of c) (.cons (.str _) (.cons (.tup (SqT.of d') (dpA_int _)) .nil))
theorem pairs_shaped {us : List LU} (ok : ∀ u, u ∈ us → Parts u.2.1 u.2.2) : SeqAt.shaped (.list (us.map pairD)) = true := by
  have z : PyData.canLayAll0 (us.map pairD) = true ∧ PyData.depthAll (us.map pairD) ≤ 4 := by
    induction us with
    | nil => exact ⟨by simp [PyData.canLayAll0], by simp [PyData.depthAll]⟩
    | cons u us ih =>
      obtain ⟨i1, i2⟩ := ih fun v hv => ok v (List.mem_cons_of_mem _ hv)
      have w := word_ok (ok u List.mem_cons_self).word
      have li := lay_int u.2.2
      have di := deep_int u.2.2
      refine ⟨?_, ?_⟩
      · simp [pairD, PyData.canLayAll0, PyData.canLay0, w, li, i1]
      · simp only [List.map_cons, pairD, PyData.depthAll, PyData.depth]
        omega
  refine shaped_by ?_ ?_
  · simp only [PyData.canLay0]
    exact z.1
  · simp only [PyData.depth]
    have := z.2
    omega
theorem num_ints {y : Str} {ns : List Int} (p : Parts y ns) : ((ns.map fun n => (toString n : Str)).map fun t => V.int (wholeNum t)) = ns.map V.int := by
  rw [List.map_map]
  refine List.map_congr_left fun n hn => ?_
  show V.int (wholeNum (toString n)) = _
  rw [(num_text (p.rng n hn).1 (p.rng n hn).2).2.1]
/-- [unit_parts(t) for t in texts] -/
theorem parts_lc {K K' : PySem.W.Frag} {σ : L2.St} {H : Hp} {Q : VK} {q : Addr} {us : List LU} {vs : List Nat} (hK : K' = K) (hvs : vs = [6]) (l6 : 6 < σ.length) (v4 : σ[4]? = some (some (.ref q))) (hq : H q = some (.lst ((us.map txt).map V.str))) (few : us.length ≤ 60) (ok : ∀ u, u ∈ us → Parts u.2.1 u.2.2)
    (k : ∀ H' D ws, Same H H' → H' D = some (.lst ws) → ws.length = us.length → (∀ n v, ws[n]? = some v → PairR us D n v H') → Q (.ref D) H') : tLc (iList K' (tVar 4)) (gName 6) tYes (tCall (spParts K) [] E0 (tCons (tVar 6) tNil)) vs σ H Q := by
  subst hK hvs
  refine map_lc (G := fun _ _ => True) (M := fun _ _ => True) (xs := (us.map txt).map V.str) (R := PairR us) (by rw [List.length_map, List.length_map]; omega) (fun C h => ⟨_, v4, h q H (fun _ _ z => z) hq⟩) pair_keep (fun D n x H' C s1 hD hx h => ?_) fun H' D ws s1 hD lw hR => k H' D ws s1 hD (by rw [lw, List.length_map, List.length_map]) hR
  rw [List.getElem?_map, List.getElem?_map] at hx
  obtain ⟨t, ht, rfl⟩ := Option.map_eq_some_iff.mp hx
  obtain ⟨u, hu, rfl⟩ := Option.map_eq_some_iff.mp ht
  have pu := ok u (List.mem_of_getElem? hu)
  obtain ⟨acc, hD⟩ := hD
  refine ⟨_, List.getElem?_set_self (by simp only [wipe, List.length_set]; exact l6), _, rfl, kinds_str _, fun y e => by cases e; exact pu.len, fun x y ts H2 q1 q2 e sp w s2 h2 h1 => ?_, fun z => absurd pu.unitV (by rw [show unitV (.str (textOf u.2.1 u.2.2)) = false from z]; decide)⟩
  cases e
  have sp' : Txt.split (textOf u.2.1 u.2.2) " " = y :: ts := sp
  rw [pu.split] at sp'
  cases sp'
  rw [num_ints pu] at h2
  have hD2 := s2 _ _ hD
  refine h _ H2 s2 ⟨u, q1, q2, hu, rfl, h1, h2, fun z => ?_, fun z => ?_⟩
  · rw [z, hD2] at h1
    cases h1
  · rw [z, hD2] at h2
    cases h2
/-- [(u[0], tuple(u[1])) for u in units] -/
theorem pairs_lc {K K' : PySem.W.Frag} {σ : L2.St} {H : Hp} {Q : VK} {p q : Addr} {us : List LU} {vs : List Nat} (hK : K' = K) (hvs : vs = [11]) (l11 : 11 < σ.length) (v3 : σ[3]? = some (some (.ref q))) (hq : H q = some (.lst (us.map (·.1)))) (few : us.length ≤ 60) (au : AllU H p us)
    (k : ∀ H' D ws, Same H H' → H' D = some (.lst ws) → ws.length = us.length → (∀ n v, ws[n]? = some v → PairR us D n v H') → Q (.ref D) H') : tLc (iList K' (tVar 3)) (gName 11) tYes (tTup (tCons (tOp (rIx K) (tVar 11) (tC (.int 0))) (tCons (tCB (rTupOf K) (tCons (tOp (rIx K) (tVar 11) (tC (.int 1))) tNil)) tNil))) vs σ H Q := by
  subst hK hvs
  refine map_lc (G := fun _ _ => True) (M := fun _ _ => True) (xs := us.map (·.1)) (R := PairR us) (by rw [List.length_map]; omega) (fun C h => ⟨_, v3, h q H (fun _ _ z => z) hq⟩) pair_keep (fun D n x H' C s1 hD hx h => ?_) fun H' D ws s1 hD lw hR => k H' D ws s1 hD (by rw [lw, List.length_map]) hR
  rw [List.getElem?_map] at hx
  obtain ⟨u, hu, rfl⟩ := Option.map_eq_some_iff.mp hx
  obtain ⟨t, l, ev, _, _, ht, hl⟩ := (au.at_ u (List.mem_of_getElem? hu)).keep (Keep.of s1)
  obtain ⟨acc, hD⟩ := hD
  rw [ev]
  have gv : ((wipe σ [11]).set 11 (some (V.ref t)))[11]? = some (some (.ref t)) := List.getElem?_set_self (by simp only [wipe, List.length_set]; exact l11)
  refine ⟨_, gv, ix_sq (.inl (SqT.of ht)) (atI_nat (j := 0) rfl) ?_⟩
  refine ⟨_, gv, ix_sq (.inl (SqT.of ht)) (atI_nat (j := 1) rfl) ?_⟩
  refine ⟨l, _, rfl, .inl ⟨SqL.of hl, fun l' nl => ⟨(by decide : (2 : Nat) ≤ sizeLine), fun t' nt => ?_⟩⟩⟩
  have a1 := same_new (o := .tup (u.2.2.map V.int)) nl
  have a2 := same_new (o := .tup [.str u.2.1, .ref l']) nt
  refine h _ _ (a1.trans a2) ⟨u, t', l', hu, rfl, upd_same, a2 _ _ upd_same, (ne_of_none (a1 _ _ hD) nt).symm, (ne_of_none hD nl).symm⟩
/-- [_law_unit(pen) for turn in range(_law_draw(pen, 6))] -/
theorem units_lc {σ : L2.St} {H : Hp} {Q : VK} {p l : Addr} {ns : List Int} {a r : Int} {vs : List Nat} (hvs : vs = [10]) (l10 : 10 < σ.length) (v0 : σ[0]? = some (some (.ref p))) (pa : PenAt H p l ns a r) (ha : a ≤ 80000)
    (k : ∀ H' a' r' q us, Keep p H H' → PenAt H' p l ns a' r' → a' ≤ a + 21 → H' q = some (.lst (us.map (·.1))) → us.length ≤ 5 → AllU H' p us → Q (.ref q) H') :
    tLc (iRng1 (tCons (tCall spDraw [] E0 (tCons (tVar 0) (tCons (tC (.int 6)) tNil))) tNil)) (gName 10) tYes (tCall spLUnit [] E0 (tCons (tVar 0) tNil)) vs σ H Q := by
  subst hvs
  refine ⟨_, v0, p, l, ns, a, r, 6, rfl, pa, by omega, by decide, by decide, fun H1 a1 r1 m k1 p1 l1 m0 m1 => ?_⟩
  refine ⟨m, rfl, by omega, by omega, fun D nD => ?_⟩
  have Dp_ : D ≠ p := (ne_of_none p1.pen nD).symm
  have v0' : ∀ w, ((wipe σ [10]).set 10 w)[0]? = some (some (.ref p)) := fun w => by
    rw [List.getElem?_set_ne (by decide)]
    show (σ.set 10 none)[0]? = _
    rw [List.getElem?_set_ne (by decide), v0]
  refine lc_range (fun n H' => Keep p H1 H' ∧ (∃ us : List LU, H' D = some (.lst (us.map (·.1))) ∧ us.length = n ∧ (∀ u, u ∈ us → Parts u.2.1 u.2.2) ∧ ∀ u, u ∈ us → ∃ t l', u.1 = .ref t ∧ t ≠ p ∧ l' ≠ p ∧ t ≠ D ∧ l' ≠ D ∧ H' t = some (.tup [.str u.2.1, .ref l']) ∧ H' l' = some (.lst (u.2.2.map V.int))) ∧ ∃ a' r', PenAt H' p l ns a' r' ∧ a' ≤ a1 + 4 * n)
    ⟨Keep.of (same_new nD), ⟨[], upd_same, rfl, fun u hu => (by cases hu), fun u hu => (by cases hu)⟩, a1, r1, p1.same (same_new nD), by omega⟩ (fun n H' hn pv => ?_) (fun H' pv => ?_)
  · obtain ⟨kp, ⟨us, hD, lu, ok, at_⟩, a2, r2, p2, l2⟩ := pv
    refine ⟨by simp only [wipe, List.set_set], ?_⟩
    simp only [tYes, ↓reduceIte]
    refine ⟨_, v0' _, p, l, ns, a2, r2, rfl, p2, by omega, fun H2 a3 r3 v y ms k3 p3 l3 ua pt new => ?_⟩
    obtain ⟨t, l', rfl, tp, lp, ht, hl⟩ := ua
    obtain ⟨tD, lD⟩ := new t l' rfl ht D _ hD
    have hD2 := k3 _ _ Dp_ hD
    have kD : Keep D H2 (upd H2 D (.lst (us.map (·.1) ++ [.ref t]))) := Keep.upd
    have kp' : Keep p H1 (upd H2 D (.lst (us.map (·.1) ++ [.ref t]))) := fun b o nb hb => by
      have bD : b ≠ D := ne_of_none hb nD
      exact kD _ _ bD (k3 _ _ nb (kp _ _ nb hb))
    refine ⟨_, hD2, by rw [List.length_map, sizeLine_eq]; omega, kp', ⟨us ++ [(.ref t, y, ms)], ?_, by rw [List.length_append, lu]; rfl, fun u hu => ?_, fun u hu => ?_⟩, a3, r3, ⟨kD _ _ Dp_.symm p3.pen, kD _ _ ?_ p3.nums, p3.ne, p3.few, p3.from0, p3.rest0⟩, by omega⟩
    · rw [upd_same, List.map_append]
      rfl
    · rcases List.mem_append.mp hu with z | z
      · exact ok u z
      · cases List.mem_singleton.mp z
        exact pt
    · rcases List.mem_append.mp hu with z | z
      · obtain ⟨t1, l1', e, b1, b2, b3, b4, b5, b6⟩ := at_ u z
        exact ⟨t1, l1', e, b1, b2, b3, b4, kD _ _ b3 (k3 _ _ b1 b5), kD _ _ b4 (k3 _ _ b2 b6)⟩
      · cases List.mem_singleton.mp z
        exact ⟨t, l', rfl, tp, lp, tD, lD, kD _ _ tD ht, kD _ _ lD hl⟩
    · exact ne_of_none p1.nums nD
  · obtain ⟨kp, ⟨us, hD, lu, ok, at_⟩, a2, r2, p2, l2⟩ := pv
    refine k H' a2 r2 D us (k1.trans kp) p2 (by omega) hD (by omega) ⟨fun u hu => ?_, ok⟩
    obtain ⟨t1, l1', e, b1, b2, b3, b4, b5, b6⟩ := at_ u hu
    exact ⟨t1, l1', e, b1, b2, b5, b6⟩

section
variable {K : PySem.W.Frag}
theorem nx_of {a : L2.TS} {D D0 : Ends} {σ : L2.St} {H : Hp} (h : a D0 σ H) : tNext { D with nx := a D0 } σ H := h
theorem texts_tupS {H : Hp} {a : Addr} {L : List Str} (h : H a = some (.tup (L.map V.str))) (few : L.length ≤ 60) (p : ∀ x, x ∈ L → x.length ≤ 50) : SeqV K H a (L.map V.str) := by
  refine ⟨.inl (SqT.of h), fun H' s => seqk_tup (s _ _ h), by rw [List.length_map]; exact few, fun u hu H' _ => ?_, fun x hx => ?_⟩
  · obtain ⟨y, _, rfl⟩ := List.mem_map.mp hu
    exact kinds_str y
  · obtain ⟨y, hy, e⟩ := List.mem_map.mp hx
    cases e
    exact p _ hy
theorem ifd_of {a b : TE} {t rest : L2.TS} {D : Ends} {σ : L2.St} {H : Hp} (h : a σ H fun x H1 => b σ H1 fun y H2 => rDiff K x y H2 fun v H3 => ∃ k, v = .bl k ∧ if k = true then t { D with nx := rest D } σ H3 else rest D σ H3) : tSeq (tIfS (tTest (tOp (rDiff K) a b)) t tNext) rest D σ H := h
theorem lc_var {te : TE} {tt : TT} {g : TG} {σ : L2.St} {H : Hp} {Q : VK} {vs : List Nat} {i : Nat} {q : Addr} (v : σ[i]? = some (some (.ref q))) (h : tLc (iList K (tC (.ref q))) g tt te vs σ H Q) : tLc (iList K (tVar i)) g tt te vs σ H Q := ⟨_, v, h⟩
theorem diff_same {x y : V} {H : Hp} {d : PyData} {A B : Hp → Prop} (dx : Dp K H x d) (dy : Dp K H y d) (sh : SeqAt.shaped d = true) (h : B H) : rDiff K x y H fun v H' => ∃ k, v = .bl k ∧ if k = true then A H' else B H' :=
  .inr ⟨d, d, dx, dy, sh, sh, _, rfl, ite2 (fun c => absurd c (by rw [same_data sh]; decide)) fun _ => h⟩
theorem diff_str {x : Str} {H : Hp} {A B : Hp → Prop} (h : B H) : rDiff K (.str x) (.str x) H fun v H' => ∃ k, v = .bl k ∧ if k = true then A H' else B H' :=
  .inl ⟨rfl, _, rfl, ite2 (fun c => absurd c (by simp)) fun _ => h⟩
theorem repr_bl {b : Bool} {H : Hp} {Q : VK} (h : Q (.str (PyData.bool b).shown) H) : rRepr K [.bl b] H Q := ⟨0, _, _, rfl, rds_bl b, rfl, by cases b <;> decide +kernel, by cases b <;> decide +kernel, h⟩
/-- the units' texts in order, whatever list of them is asked -/
theorem ord_texts {H : Hp} {Q : VK} {E : XK} {M LS : List Str} (hU : ∀ x, x ∈ M → unitV (.str x) = true) (inc : LS.Pairwise fun a b => rankU a < rankU b) (mem : ∀ x, x ∈ LS ↔ x ∈ M) (k : ∀ H' q, Same H H' → H' q = some (.tup (LS.map V.str)) → Q (.ref q) H') : OrdOk K H Q E (M.map V.str) := by
  unfold OrdOk
  rw [firstNo_none fun u hu => by
    obtain ⟨x, hx, rfl⟩ := List.mem_map.mp hu
    exact hU x hx]
  intro L H' q o s hq
  have e : L = LS := ord_unique o.inc inc fun x => by
    rw [o.mem, mem]
    exact ⟨fun h => by obtain ⟨y, hy, e⟩ := List.mem_map.mp h; cases e; exact hy, fun h => List.mem_map.mpr ⟨x, h, rfl⟩⟩
  rw [e] at hq
  exact k H' q s hq
theorem ord_line {H : Hp} {Q : VK} {E : XK} {M LS : List Str} (hU : ∀ x, x ∈ M → unitV (.str x) = true) (inc : LS.Pairwise fun a b => rankU a < rankU b) (mem : ∀ x, x ∈ LS ↔ x ∈ M) (k : ∀ H', Same H H' → Q (.str (unitsLine LS)) H') : OrdOkT K H Q E (M.map V.str) := by
  unfold OrdOkT
  rw [firstNo_none fun u hu => by
    obtain ⟨x, hx, rfl⟩ := List.mem_map.mp hu
    exact hU x hx]
  intro L H' o s
  have e : L = LS := ord_unique o.inc inc fun x => by
    rw [o.mem, mem]
    exact ⟨fun h => by obtain ⟨y, hy, e⟩ := List.mem_map.mp h; cases e; exact hy, fun h => List.mem_map.mpr ⟨x, h, rfl⟩⟩
  rw [e]
  exact k H' s
theorem ord_bad {H : Hp} {Q : VK} {E : XK} {xs : List V} {u : V} (h : firstNo xs = some u) (k : ∀ H' d, Same H H' → ErrX H' d [("value", u)] → E (.ref (ca K 2)) (some d) H') : OrdOk K H Q E xs ∧ OrdOkT K H Q E xs := by
  unfold OrdOk OrdOkT
  rw [h]
  exact ⟨k, k⟩
theorem joinL_pos (S p : List Nat) (ps : List (List Nat)) (h : 0 < p.length) : 0 < (TL.joinL S (p :: ps)).length := by
  cases ps with
  | nil => exact h
  | cons q r =>
    show 0 < (p ++ (S ++ TL.joinL S (q :: r))).length
    rw [List.length_append]
    omega
theorem word_pos {y : Str} (h : isWord y = true) : 0 < (TL.tl y).length := by
  rcases word6 h with rfl | rfl | rfl | rfl | rfl | rfl <;> decide +kernel
theorem txt_pos {u : PU} (p : Parts u.1 u.2) : 0 < (TL.tl (txtP u)).length := by
  rw [tl_text]
  exact joinL_pos _ _ _ (word_pos p.word)
theorem txt_short {u : PU} (p : Parts u.1 u.2) : (txtP u).length ≤ 40 := by
  rw [TL.len_tl, tl_text]
  have hw : ∀ l, l ∈ (segP u).map TL.tl → l.length ≤ 7 := fun l hl => by
    obtain ⟨w, hw, rfl⟩ := List.mem_map.mp hl
    rw [← TL.len_tl]
    exact (words_plain (us := [u]) (fun v hv => by cases List.mem_singleton.mp hv; exact p) w (List.mem_append_left _ hw)).2
  have z := joinL_len (TL.tl " ") 7 hw
  have s1 : (TL.tl " ").length = 1 := by decide +kernel
  have s2 : (segP u).length = 1 + u.2.length := seg_len u.1 u.2
  have f := p.few
  rw [List.length_map, s2, s1] at z
  have : (1 + u.2.length) * (7 + 1) ≤ 3 * 8 := Nat.mul_le_mul (by omega) (by decide)
  omega
theorem no_seq {n : String} {H : Hp} {v : V} (t : TyX K H v (.type n)) (a : kitB n "list" = some false) (b : kitB n "tuple" = some false) : SeqK K H v false :=
  ⟨n, t, kitAny_cons (kit_ty a) (fun _ => kitAny_cons (kit_ty b) (fun _ => rfl) (fun z => nomatch z)) (fun z => nomatch z)⟩
/-- a lambda whose body refuses a unit -/
theorem tells_unit {TZ : List (Addr × Str)} {te : XK → TE} {σ : L2.St} {H : Hp} {p : Addr} {v : V} {d : PyData} (tabs : LamX.Tabs TZ H) (o : Odd H p v d) (sh : shwB d = true) (h : ∀ H' Q E, LamX.ExtN H H' → (∀ H2 x, Same H' H2 → ErrX H2 x [("value", v)] → E (.ref (ca K 2)) (some x) H2) → te E σ H' Q) :
    Tells TZ (LamX.tLam TZ (THeard K) te) σ H ("unit", .str d.shown) := by
  intro Q hQ
  obtain ⟨a1, a2, a3, _⟩ := shw_of sh
  refine ⟨tabs, fun H1 e1 t1 H2 R s2 _ => ?_⟩
  have e2 := e1.trans (ext_same s2)
  refine h _ _ _ e2 fun H3 x s3 ex => ⟨x, rfl, .inr ⟨rfl, v, p, d, ex, (o.ext (e2.trans (ext_same s3))).rds, a1, a2, Nat.le_trans a3 (by decide), fun H4 a s4 ha => ?_⟩⟩
  exact hQ _ a (e2.trans (ext_same (s3.trans s4))) (tabs_same t1 (s2.trans (s3.trans s4))) ha
theorem told_pen {H H' : Hp} {q p : Addr} {xs : List V} (hp : H p = some (.lst xs)) (k : KeepN p H H') : ∀ {vs : List V} {ts : List (Str × V)}, Told H q vs ts → Told H' q vs ts
  | _, _, .nil => .nil
  | _, _, .cons h n s r => .cons (k _ _ (fun z => by rw [z, hp] at h; cases h) h fun _ z => nomatch z) n s (told_pen hp k r)
theorem log_pen {TZ : List (Addr × Str)} {te : TE} {σ : L2.St} {H : Hp} {i : Nat} {q p : Addr} {ts : List (Str × V)} {t : Str × V} {D : Ends} {xs : List V} {PP : Hp → Prop} (vq : σ[i]? = some (some (.ref q))) (lg : Log TZ H q ts) (few : ts.length < 100) (hp : H p = some (.lst xs)) (qp : q ≠ p) (sc : scal t.2 t.2 = true)
    (tl : ∀ Q : VK, (∀ H' a, KeepN p H H' → LamX.Tabs TZ H' → PP H' → H' a = some (.tup [.str t.1, t.2]) → Q (.ref a) H') → te σ H Q)
    (k : ∀ H1 H', KeepN p H H1 → PP H1 → Keep q H1 H' → Log TZ H' q (ts ++ [t]) → D.nx σ H') : tDrop (tBM K "list" rAppend (tVar i) (tCons te tNil)) D σ H := by
  obtain ⟨⟨vs, hq, told, len⟩, tabs⟩ := lg
  refine ⟨_, vq, .inl ⟨rfl, vs, SqL.of hq⟩, tl _ fun H1 a e1 t1 pp ha => ?_⟩
  have hq1 := e1 _ _ qp hq fun _ z => nomatch z
  refine ⟨q, vs, .ref a, rfl, rfl, hq1, by rw [sizeLine_eq]; omega, ?_⟩
  have aq : a ≠ q := fun z => by
    rw [z, hq1] at ha
    cases ha
  have k2 : Keep q H1 (upd H1 q (.lst (vs ++ [.ref a]))) := Keep.upd
  exact k H1 _ e1 pp k2 ⟨⟨_, upd_same, Told.app (.cons (k2 _ _ aq ha) aq sc .nil) ((told_pen hp e1 told).keepN k2.n), by rw [List.length_append, List.length_append, len]; rfl⟩, tabs_keep t1 hq1 k2⟩
theorem odd_pen {H H' : Hp} {p q l : Addr} {ns : List Int} {a r : Int} {v : V} {d : PyData} (o : Odd H q v d) (pa : PenAt H p l ns a r) (k : KeepN p H H') : Odd H' q v d := by
  have ne : ∀ {b : Addr} {u : HO}, H b = some u → u ≠ .lst [.ref l, .int a, .int r] → b ≠ p := fun h n z => by
    rw [z, pa.pen] at h
    cases h
    exact n rfl
  cases o with
  | non => exact .non
  | bl b => exact .bl b
  | int n => exact .int n
  | str x l => exact .str x l
  | ts x h n => exact .ts x (k _ _ (ne h fun z => nomatch z) h fun _ z => nomatch z) n
  | ti x h n => exact .ti x (k _ _ (ne h fun z => nomatch z) h fun _ z => nomatch z) n
  | l0 h n m => exact .l0 (k _ _ (ne h fun z => by cases z) h fun _ z => nomatch z) n m
  | l1 x h n m => exact .l1 x (k _ _ (ne h fun z => by cases z) h fun _ z => nomatch z) n m
  | d0 h n => exact .d0 (k _ _ (ne h fun z => nomatch z) h fun _ z => nomatch z) n
theorem firstNo_odd {L : List Str} {v u : V} (h : ∀ x, x ∈ L → unitV (.str x) = true) (b : unitV v = false) : firstNo (L.map V.str ++ [v, u]) = some v := by
  unfold firstNo
  rw [List.find?_append]
  have e : (L.map V.str).find? (fun u => !unitV u) = none := by
    rw [List.find?_eq_none]
    intro u hu
    obtain ⟨x, hx, rfl⟩ := List.mem_map.mp hu
    rw [h x hx]
    decide
  rw [e, Option.none_or, List.find?_cons_of_pos]
  rw [b]
  rfl
theorem seqv_of {H : Hp} {a : Addr} {xs : List V} (sq : Sq K H a xs) (sk : ∀ H', Same H H' → SeqK K H' (.ref a) true) (few : xs.length ≤ 60) (kd : ∀ u, u ∈ xs → (∃ x, u = .str x ∧ x.length ≤ 50) ∨ u = .non ∨ ∃ p d, Odd H p u d) : SeqV K H a xs := by
  refine ⟨sq, sk, few, fun u hu H' s => ?_, fun x hx => ?_⟩
  · rcases kd u hu with ⟨x, rfl, _⟩ | rfl | ⟨p, d, o⟩
    · exact kinds_str x
    · exact kinds_non
    · exact (o.same s).kinds
  · rcases kd _ hx with ⟨y, e, l⟩ | e | ⟨p, d, o⟩
    · cases e
      exact l
    · cases e
    · exact o.short x rfl
/-- ' , '.join(due) or '-' -/
theorem line_or {rJ : V → List V → Hp → VK → Prop} {σ : L2.St} {H : Hp} {Q : VK} {i : Nat} {t : Addr} {LS : List Str} (hJ : ∀ (a : Str) (p : Addr) (ys : List Str) (H : Hp) (Q : VK), SqT K H p (ys.map V.str) → (ys.map (·.length)).sum + ys.length * a.length ≤ 16777216 → Q (.str (Txt.join a ys)) H → rJ (.str a) [.ref p] H Q)
    (v : σ[i]? = some (some (.ref t))) (ht : H t = some (.tup (LS.map V.str))) (few : LS.length ≤ 60) (short : ∀ x, x ∈ LS → x.length ≤ 50 ∧ 0 < (TL.tl x).length) (k : Q (.str (unitsLine LS)) H) : tOrT K (tBM K "str" rJ (tC (.str " , ")) (tCons (tVar i) tNil)) (tC (.str "-")) σ H Q := by
  refine ⟨rfl, _, v, hJ _ _ _ _ _ (SqT.of ht) (join_size few fun x hx => (short x hx).1) ?_⟩
  have len : (Txt.join " , " LS).length ≤ 16777216 := by
    have a := join_size few fun x hx => (short x hx).1
    rw [TL.len_tl, TL.join_eq, TL.tl_join]
    refine Nat.le_trans (joinL_len _ 50 fun l hl => ?_) ?_
    · obtain ⟨x, hx, rfl⟩ := List.mem_map.mp hl
      rw [← TL.len_tl]
      exact (short x hx).1
    · rw [List.length_map]
      have s1 : (TL.tl " , ").length = 3 := by decide +kernel
      rw [s1]
      exact Nat.le_trans (Nat.mul_le_mul_right 53 few) (by decide)
  cases LS with
  | nil =>
    refine ⟨false, ⟨Nat.le_trans len (by rw [sizeLine_eq]; decide), by decide +kernel⟩, ?_⟩
    exact k
  | cons x xs =>
    have pos : 0 < (Txt.join " , " (x :: xs)).length := by
      rw [TL.len_tl, TL.join_eq, TL.tl_join]
      exact joinL_pos _ _ _ (short x List.mem_cons_self).2
    refine ⟨true, ⟨Nat.le_trans len (by rw [sizeLine_eq]; decide), ?_⟩, ?_⟩
    · symm
      rw [bne_iff_ne]
      omega
    · exact k
end
end L2.K32
set_option Elab.async false
set_option linter.all false
set_option maxRecDepth 100000
set_option maxHeartbeats 4000000
/-! Units are texts with an order of their own. -/
namespace L2.K32
open PySem PySem.Spec PyProof.Rows L2.RV

/-- _law_units_right(pen) -/
def spLUnits (TS : List (Addr × Str)) : Sp := fun vs H Q _ => ∃ (p l : Addr) (ns : List Int) (a r : Int), vs = [.ref p] ∧ PenAt H p l ns a r ∧ a ≤ 70000 ∧ LamX.Tabs TS H ∧ ∀ H' a' r', LamX.Tabs TS H' → PenAt H' p l ns a' r' → a' ≤ a + 600 → Q (.bl true) H'
section
variable {P : Program} {w : World} {K : PySem.W.Frag} {mg : Str → Option Value} {base : Heap} {fd : FuncData}
theorem ok_law_units_right {TS : List (Addr × Str)} {PT : Addr} (T : Top w K mg) (fU : PySem.W.findIn K (.ref (ca K 2)) "value" = some none) (fC : PySem.W.findIn K (.ref (ca K 3)) "value" = some none) (D_law_pick : Def P w K mg base "_law_pick" 2 ["_law_pen_here", "_law_some"] spPick) (D_law_draw : Def P w K mg base "_law_draw" 1 ["_law_pen_here", "_law_many"] spDraw)
    (D_law_unit : Def P w K mg base "_law_unit" 3 ["_law_pen_here"] spLUnit) (D_law_text : Def P w K mg base "_law_text" 1 ["_law_unit_here"] spLText) (D_law_made : Def P w K mg base "_law_made" 5 ["_law_unit_here"] spLText) (D_law_ordered : Def P w K mg base "_law_ordered" 2 ["_law_units"] spLOrdered) (D_law_bent : Def P w K mg base "_law_bent" 3 ["_law_pen_here", "_law_text_here"] spLBent)
    (D_law_is_unit : Def P w K mg base "_law_is_unit" 2 ["_law_value"] spLIsUnit) (D_is_unit : Def P w K mg base "is_unit" 4 ["value"] (spUnit K)) (D_is_unitX : DefX CX0 P w K mg base "is_unit" 4 ["value"] (spUnit K)) (D_law_refused_right : DefG P w K mg base "_law_refused_right" 7 ["_law_pen_here"] (spLRefused TS))
    (D_unit_of : DefR (L2.CX P w) P w K mg base "unit_of" 4 "word" (spUnitOf K)) (D_unit_parts : DefX (L2.CX P w) P w K mg base "unit_parts" 5 ["unit"] (spParts K)) (D_in_order : DefX (L2.CX P w) P w K mg base "in_order" 7 ["units"] (spInOrder K)) (D_units_text : DefX (L2.CX P w) P w K mg base "units_text" 8 ["units"] (spUnitsText K))
    (L_law_heard : LamD K mg "_law_heard" "_law_ask" s_law_heard) (TB : LamX.TabB base mg (He.codeOf K ("_law_units_right", none)) PT) (hm : (PT, qUnits) ∈ TS) (hq : ∀ p ∈ TS, p.1 = PT → p.2 = qUnits) (F : Fn K "_law_units_right" s_law_units_right fd) : FnG P w K mg base CX0 11 (He.ga K "_law_units_right") fd ["_law_pen_here"] (spLUnits TS) := by
  refine okGC (p := ("_law_units_right", none)) F sc_law_units_right (fun vs H Q E h => ?_) (fun A outer s H vs Q E hgu hr h => ?_)
  · obtain ⟨p, l, ns, a, r, rfl, _⟩ := h
    rfl
  · obtain ⟨p, l, ns, a, r, rfl, pa, ha, tabs, k⟩ := h
    have hu := hr.units
    have two : (2 : Nat) ≤ sizeLine := by decide
    refine ⟨_, PSs.nox (pss_cons (ps_for PassesOwn.never rfl (pi_range1 rfl T.n_range (pa_cons pe_int pa_nil)) (pg_name (i := 1) sc_law_units_right.nd rfl (by first | exact Or.inl rfl | exact Or.inr rfl)) (pss_cons (ps_setLc (i := 3) (own := [("_law_turn", 10)]) (g := gName 10) (te := tCall spLUnit [] E0 (tCons (tVar 0) tNil)) (tt := tYes) (by rfl) sc_law_units_right.nd rfl rfl (sw_true rfl rfl rfl (by decide +kernel)) (pi_range1 rfl T.n_range (pa_cons (pe_callD D_law_draw (hr.mono (by decide)) rfl (pa_cons (pv 0) (pa_cons pe_int pa_nil))) pa_nil)) (blkOk_by (own := [("_law_turn", 10)]) (N := ["_law_pen_here", "_law_again", "_law_both", "_law_units", "_law_texts", "_law_due", "_law_text_here", "_law_odd", "_law_heard_here", "_law_bent_here", "_law_turn", "_law_unit_here"]) (sc := defScope s_law_units_right) (by decide +kernel)) (fun _ _ _ _ _ => by exact (pg_name (i := 10) sc_law_units_right.nd rfl (by first | exact Or.inl rfl | exact Or.inr rfl))) (fun _ _ _ _ _ => by exact pts_nil) (fun _ _ _ _ _ => by exact (pe_callD D_law_unit (hr.mono (by decide)) rfl (pa_cons (pv 0) pa_nil))))
      (pss_cons (ps_set (i := 4) sc_law_units_right.nd rfl (by first | exact Or.inl rfl | exact Or.inr rfl) (pe_lc (own := [("_law_unit_here", 11)]) (g := gName 11) (te := tCall spLText [] E0 (tCons (tVar 11) tNil)) (tt := tYes) (by rfl) sc_law_units_right.nd (pi_list (pv 3)) (blkOk_by (own := [("_law_unit_here", 11)]) (N := ["_law_pen_here", "_law_again", "_law_both", "_law_units", "_law_texts", "_law_due", "_law_text_here", "_law_odd", "_law_heard_here", "_law_bent_here", "_law_turn", "_law_unit_here"]) (sc := defScope s_law_units_right) (by decide +kernel)) (fun _ _ _ _ _ => by exact (pg_name (i := 11) sc_law_units_right.nd rfl (by first | exact Or.inl rfl | exact Or.inr rfl))) (fun _ _ _ _ _ => by exact pts_nil) (fun _ _ _ _ _ => by exact (pe_callD D_law_text (hr.mono (by decide)) rfl (pa_cons (pv 11) pa_nil)))))
      (pss_cons (ps_if (pt_cmpR (op_diff hu) (pe_lc (own := [("_law_text_here", 6)]) (g := gName 6) (te := tVar 6) (tt := tNot (tB (tCall (spUnit K) [] E0 (tCons (tVar 6) tNil)))) (by rfl) sc_law_units_right.nd (pi_list (pv 4)) (blkOk_by (own := [("_law_text_here", 6)]) (N := ["_law_pen_here", "_law_again", "_law_both", "_law_units", "_law_texts", "_law_due", "_law_text_here", "_law_odd", "_law_heard_here", "_law_bent_here", "_law_turn", "_law_unit_here"]) (sc := defScope s_law_units_right) (by decide +kernel)) (fun _ _ _ _ _ => by exact (pg_name (i := 6) sc_law_units_right.nd rfl (by first | exact Or.inl rfl | exact Or.inr rfl))) (fun _ _ _ _ _ => by exact (pts_one (pt_not (pt_val (pe_callD D_is_unit (hr.mono (by decide)) rfl (pa_cons (pv 6) pa_nil)))))) (fun _ _ _ _ _ => by exact (pv 6))) (pe_lstN pa_nil) (nomark _)) (pss_one (ps_ret pe_bl)) pss_nil)
      (pss_cons (ps_if (pt_cmpR (op_diff hu) (pe_lc (own := [("_law_unit_here", 11)]) (g := gName 11) (te := tCall spLText [] E0 (tCons (tVar 11) tNil)) (tt := tYes) (by rfl) sc_law_units_right.nd (pi_list (pv 3)) (blkOk_by (own := [("_law_unit_here", 11)]) (N := ["_law_pen_here", "_law_again", "_law_both", "_law_units", "_law_texts", "_law_due", "_law_text_here", "_law_odd", "_law_heard_here", "_law_bent_here", "_law_turn", "_law_unit_here"]) (sc := defScope s_law_units_right) (by decide +kernel)) (fun _ _ _ _ _ => by exact (pg_name (i := 11) sc_law_units_right.nd rfl (by first | exact Or.inl rfl | exact Or.inr rfl))) (fun _ _ _ _ _ => by exact pts_nil) (fun _ _ _ _ _ => by exact (pe_callD D_law_made (hr.mono (by decide)) rfl (pa_cons (pv 11) pa_nil)))) (pv 4) (nomark _)) (pss_one (ps_ret pe_bl)) pss_nil)
      (pss_cons (ps_if (pt_cmpR (op_diff hu) (pe_lc (own := [("_law_text_here", 6)]) (g := gName 6) (te := tCall (spParts K) [] E0 (tCons (tVar 6) tNil)) (tt := tYes) (by rfl) sc_law_units_right.nd (pi_list (pv 4)) (blkOk_by (own := [("_law_text_here", 6)]) (N := ["_law_pen_here", "_law_again", "_law_both", "_law_units", "_law_texts", "_law_due", "_law_text_here", "_law_odd", "_law_heard_here", "_law_bent_here", "_law_turn", "_law_unit_here"]) (sc := defScope s_law_units_right) (by decide +kernel)) (fun _ _ _ _ _ => by exact (pg_name (i := 6) sc_law_units_right.nd rfl (by first | exact Or.inl rfl | exact Or.inr rfl))) (fun _ _ _ _ _ => by exact pts_nil) (fun _ _ _ _ _ => by exact (pe_callX D_unit_parts (hr.mono (by decide)) rfl pass_E0 (pa_cons (pv 6) pa_nil)))) (pe_lc (own := [("_law_unit_here", 11)]) (g := gName 11) (te := tTup (tCons (tOp (rIx K) (tVar 11) (tC (.int 0))) (tCons (tCB (rTupOf K) (tCons (tOp (rIx K) (tVar 11) (tC (.int 1))) tNil)) tNil))) (tt := tYes) (by rfl) sc_law_units_right.nd (pi_list (pv 3)) (blkOk_by (own := [("_law_unit_here", 11)]) (N := ["_law_pen_here", "_law_again", "_law_both", "_law_units", "_law_texts", "_law_due", "_law_text_here", "_law_odd", "_law_heard_here", "_law_bent_here", "_law_turn", "_law_unit_here"]) (sc := defScope s_law_units_right) (by decide +kernel)) (fun _ _ _ _ _ => by exact (pg_name (i := 11) sc_law_units_right.nd rfl (by first | exact Or.inl rfl | exact Or.inr rfl))) (fun _ _ _ _ _ => by exact pts_nil) (fun _ _ _ _ _ => by exact (pe_tup (pa_cons (pe_ix ix_seq (pv 11) pe_int (fun _ _ => rfl)) (pa_cons (pe_callTy call_tuple_of rfl T.n_tuple (by decide +kernel) (pa_cons (pe_ix ix_seq (pv 11) pe_int (fun _ _ => rfl)) pa_nil)) pa_nil))))) (nomark _)) (pss_one (ps_ret pe_bl)) pss_nil)
      (pss_cons (ps_set (i := 5) sc_law_units_right.nd rfl (by first | exact Or.inl rfl | exact Or.inr rfl) (pe_callTy call_tuple_of rfl T.n_tuple (by decide +kernel) (pa_cons (pe_lc (own := [("_law_unit_here", 11)]) (g := gName 11) (te := tCall spLText [] E0 (tCons (tVar 11) tNil)) (tt := tYes) (by rfl) sc_law_units_right.nd (pi_list (pe_callD D_law_ordered (hr.mono (by decide)) rfl (pa_cons (pv 3) pa_nil))) (blkOk_by (own := [("_law_unit_here", 11)]) (N := ["_law_pen_here", "_law_again", "_law_both", "_law_units", "_law_texts", "_law_due", "_law_text_here", "_law_odd", "_law_heard_here", "_law_bent_here", "_law_turn", "_law_unit_here"]) (sc := defScope s_law_units_right) (by decide +kernel)) (fun _ _ _ _ _ => by exact (pg_name (i := 11) sc_law_units_right.nd rfl (by first | exact Or.inl rfl | exact Or.inr rfl))) (fun _ _ _ _ _ => by exact pts_nil) (fun _ _ _ _ _ => by exact (pe_callD D_law_text (hr.mono (by decide)) rfl (pa_cons (pv 11) pa_nil)))) pa_nil)))
      (pss_cons (ps_if (PW.pt (pw_or (pt_cmpR (op_diff hu) (pe_callX D_in_order (hr.mono (by decide)) rfl pass_E0 (pa_cons (pe_op op_plus (pv 4) (pe_slice sl_list (pv 4) po_none (po_some pe_int))) pa_nil)) (pv 5) (nomark _)) (pw_or1 (pt_cmpR (op_diff hu) (pe_callXK D_in_order (hr.mono (by decide)) rfl pass_E0 (pe_callTy call_tuple_of rfl T.n_tuple (by decide +kernel) (pa_cons (pv 4) pa_nil))) (pv 5) (nomark _))))) (pss_one (ps_ret pe_bl)) pss_nil)
      (pss_cons (ps_if (pt_cmpR (op_diff hu) (pe_callX D_units_text (hr.mono (by decide)) rfl pass_E0 (pa_cons (pv 4) pa_nil)) (pe_orT (pe_bm PySem.F.plainAttrs_str PySem.F.slot_str_join PySem.F.type_str_join mt_join pe_str (pa_cons (pv 5) pa_nil)) (pe_one pe_str)) (nomark _)) (pss_one (ps_ret pe_bl)) pss_nil)
      (pss_cons (ps_for PassesOwn.never rfl (pi_list (pv 4)) (pg_name (i := 6) sc_law_units_right.nd rfl (by first | exact Or.inl rfl | exact Or.inr rfl)) (pss_cons (ps_set (i := 9) sc_law_units_right.nd rfl (by first | exact Or.inl rfl | exact Or.inr rfl) (pe_callD D_law_bent (hr.mono (by decide)) rfl (pa_cons (pv 0) (pa_cons (pv 6) pa_nil))))
      (pss_cons (ps_if (pt_cmpR (op_diff hu) (pe_callB (call_repr hgu hu) rfl T.n_repr (by decide +kernel) (pa_cons (pe_callXK D_is_unitX (hr.mono (by decide)) rfl pass0 (pv 9)) pa_nil)) (pe_callB (call_repr hgu hu) rfl T.n_repr (by decide +kernel) (pa_cons (pe_callD D_law_is_unit (hr.mono (by decide)) rfl (pa_cons (pv 9) pa_nil)) pa_nil)) (nomark _)) (pss_one (ps_ret pe_bl)) pss_nil)
      (pss_one (ps_if (PW.pt (pw_and (pt_cmpR (op_same hu) (pe_ix ix_seq (pe_lamX (k := 8) L_law_heard rfl sc_law_heard rfl (Or.inl rfl) (fun g cdg => heard_gives T fU fC hgu (hr.mono (by decide))) TB rfl hm hq (hr.mono (by decide)) (LamX.lamS_by (sc := defScope s_law_units_right) (by decide +kernel)) rfl (fun _ _ _ _ _ => rfl) (fun A2 o2 s2 H2 E2 f2 c2 hr2 => (pe_callX D_unit_parts (hr2.mono (by decide)) rfl (passes_call (takes_of rfl rfl rfl rfl) (fun _ _ _ _ h => h)) (pa_cons (pv 9) pa_nil)))) pe_int (fun _ _ => rfl)) pe_str (nomark _)) (pw_and1 (pt_val (pe_callD D_law_is_unit (hr.mono (by decide)) rfl (pa_cons (pv 9) pa_nil)))))) (pss_one (ps_ret pe_bl)) pss_nil)))))
      (pss_cons (ps_set (i := 7) sc_law_units_right.nd rfl (by first | exact Or.inl rfl | exact Or.inr rfl) (pe_callD D_law_pick (hr.mono (by decide)) rfl (pa_cons (pv 0) (pa_cons (pe_lstN (pa_cons pe_non (pa_cons pe_int (pa_cons pe_str (pa_cons pe_str (pa_cons pe_bl (pa_cons (pe_tup (pa_cons pe_str pa_nil)) (pa_cons pe_str (pa_cons pe_str (pa_cons pe_str (pa_cons pe_str pa_nil))))))))))) pa_nil))))
      (pss_cons (ps_set (i := 8) sc_law_units_right.nd rfl (by first | exact Or.inl rfl | exact Or.inr rfl) (pe_lstN (pa_cons (pe_lamX (k := 8) L_law_heard rfl sc_law_heard rfl (Or.inl rfl) (fun g cdg => heard_gives T fU fC hgu (hr.mono (by decide))) TB rfl hm hq (hr.mono (by decide)) (LamX.lamS_by (sc := defScope s_law_units_right) (by decide +kernel)) rfl (fun _ _ _ _ _ => rfl) (fun A2 o2 s2 H2 E2 f2 c2 hr2 => (pe_callX D_unit_parts (hr2.mono (by decide)) rfl (passes_call (takes_of rfl rfl rfl rfl) (fun _ _ _ _ h => h)) (pa_cons (pv 7) pa_nil)))) pa_nil)))
      (pss_cons (ps_expr (pe_bm PySem.F.plainAttrs_list PySem.F.slot_list_append PySem.F.type_list_append mt_append (pv 8) (pa_cons (pe_lamX (k := 8) L_law_heard rfl sc_law_heard rfl (Or.inl rfl) (fun g cdg => heard_gives T fU fC hgu (hr.mono (by decide))) TB rfl hm hq (hr.mono (by decide)) (LamX.lamS_by (sc := defScope s_law_units_right) (by decide +kernel)) rfl (fun _ _ _ _ _ => rfl) (fun A2 o2 s2 H2 E2 f2 c2 hr2 => (pe_callX D_in_order (hr2.mono (by decide)) rfl (passes_call (takes_of rfl rfl rfl rfl) (fun _ _ _ _ h => h)) (pa_cons (pe_op op_plus (pv 4) (pe_lstN (pa_cons (pv 7) (pa_cons pe_non pa_nil)))) pa_nil)))) pa_nil)))
      (pss_cons (ps_expr (pe_bm PySem.F.plainAttrs_list PySem.F.slot_list_append PySem.F.type_list_append mt_append (pv 8) (pa_cons (pe_lamX (k := 8) L_law_heard rfl sc_law_heard rfl (Or.inl rfl) (fun g cdg => heard_gives T fU fC hgu (hr.mono (by decide))) TB rfl hm hq (hr.mono (by decide)) (LamX.lamS_by (sc := defScope s_law_units_right) (by decide +kernel)) rfl (fun _ _ _ _ _ => rfl) (fun A2 o2 s2 H2 E2 f2 c2 hr2 => (pe_callX D_units_text (hr2.mono (by decide)) rfl (passes_call (takes_of rfl rfl rfl rfl) (fun _ _ _ _ h => h)) (pa_cons (pe_tup (pa_cons (pv 7) pa_nil)) pa_nil)))) pa_nil)))
      (pss_cons (ps_expr (pe_bm PySem.F.plainAttrs_list PySem.F.slot_list_append PySem.F.type_list_append mt_append (pv 8) (pa_cons (pe_lamX (k := 8) L_law_heard rfl sc_law_heard rfl (Or.inl rfl) (fun g cdg => heard_gives T fU fC hgu (hr.mono (by decide))) TB rfl hm hq (hr.mono (by decide)) (LamX.lamS_by (sc := defScope s_law_units_right) (by decide +kernel)) rfl (fun _ _ _ _ _ => rfl) (fun A2 o2 s2 H2 E2 f2 c2 hr2 => (pe_callX D_in_order (hr2.mono (by decide)) rfl (passes_call (takes_of rfl rfl rfl rfl) (fun _ _ _ _ h => h)) (pa_cons (pe_callD D_law_pick (hr2.mono (by decide)) rfl (pa_cons (pv 0) (pa_cons (pe_lstN (pa_cons pe_non (pa_cons pe_str (pa_cons pe_dnewK (pa_cons pe_int pa_nil))))) pa_nil))) pa_nil)))) pa_nil)))
      (pss_cons (ps_if (PW.pt (pw_or (pt_cmpR (op_diff hu) (pv 8) (pe_op op_plus (pe_op op_times (pe_lstN (pa_cons (pe_tup (pa_cons pe_str (pa_cons (pe_callB (call_repr hgu hu) rfl T.n_repr (by decide +kernel) (pa_cons (pv 7) pa_nil)) pa_nil))) pa_nil)) pe_int) (pe_lstN (pa_cons (pe_tup (pa_cons pe_str (pa_cons pe_str pa_nil))) pa_nil))) (nomark _)) (pw_or1 (pt_val (pe_callD D_is_unit (hr.mono (by decide)) rfl (pa_cons (pv 7) pa_nil)))))) (pss_one (ps_ret pe_bl)) pss_nil)
      (pss_one (ps_if (pt_not (pt_val (pe_callDG D_law_refused_right hgu (hr.mono (by decide)) rfl (pa_cons (pv 0) pa_nil)))) (pss_one (ps_ret pe_bl)) pss_nil))))))))))))))))))
      (pss_cons (ps_if (PW.pt (pw_or (pt_cmpR (op_diff hu) (pe_callRK D_unit_of (hr.mono (by decide)) rfl pass_E0 pe_str) pe_str (nomark _)) (pw_or1 (pt_cmpR (op_diff hu) (pe_callXK D_unit_parts (hr.mono (by decide)) rfl pass_E0 pe_str) (pe_tup (pa_cons pe_str (pa_cons (pe_tup (pa_cons pe_int (pa_cons pe_int pa_nil))) pa_nil))) (nomark _))))) (pss_one (ps_ret pe_bl)) pss_nil)
      (pss_cons (ps_set (i := 2) sc_law_units_right.nd rfl (by first | exact Or.inl rfl | exact Or.inr rfl) (pe_lstN (pa_cons pe_str (pa_cons pe_str pa_nil))))
      (pss_cons (ps_if (PW.pt (pw_or (pt_cmpR (op_diff hu) (pe_callXK D_units_text (hr.mono (by decide)) rfl pass_E0 (pe_lstN (pa_cons pe_str pa_nil))) pe_str (nomark _)) (pw_or1 (pt_cmpR (op_diff hu) (pe_callX D_in_order (hr.mono (by decide)) rfl pass_E0 (pa_cons (pv 2) pa_nil)) (pe_tup (pa_cons pe_str (pa_cons pe_str pa_nil))) (nomark _))))) (pss_one (ps_ret pe_bl)) pss_nil)
      (pss_one (ps_ret (pe_cmpR (op_same hu) (pe_callX D_in_order (hr.mono (by decide)) rfl pass_E0 (pa_cons (pe_lstN (pa_cons pe_str (pa_cons pe_str (pa_cons pe_str (pa_cons pe_str (pa_cons pe_str pa_nil)))))) pa_nil)) (pe_tup (pa_cons pe_str (pa_cons pe_str (pa_cons pe_str (pa_cons pe_str (pa_cons pe_str pa_nil)))))) (nomark _)))))))), ?_⟩
    refine ⟨8, rfl, by decide, by decide, ?_⟩
    refine for_range (fun i σ H => ∃ x1 x2 x3 x4 x5 x6 x7 x8 x9 x10 x11, σ = [some (.ref p), x1, x2, x3, x4, x5, x6, x7, x8, x9, x10, x11] ∧ ∃ a' r', PenAt H p l ns a' r' ∧ a' ≤ a + 70 * i ∧ LamX.Tabs TS H) ⟨_, _, _, _, _, _, _, _, _, _, _, rfl, a, r, pa, by omega, tabs⟩ (fun i σ H1 hi y => ?_) (fun σ H1 y => ?_)
    · obtain ⟨x1, x2, x3, x4, x5, x6, x7, x8, x9, x10, x11, rfl, a1, r1, p1, l1, t1⟩ := y
      with_reducible refine gn_of ?_
      with_reducible refine st_of (σ' := [some (.ref p), some (.int (0 + (i : Int))), x2, x3, x4, x5, x6, x7, x8, x9, x10, x11]) rfl ?_
      with_reducible refine set_of ?_
      with_reducible refine units_lc rfl ?_ ?_ p1 ?_ ?_
      · show 10 < 12
        decide
      · rfl
      · omega
      intro H2 a2 r2 q us k2 p2 l2 hq2 few au
      have t2 := tabs_keep t1 p1.pen k2
      show tSeq _ _ _ [some (.ref p), some (.int (0 + (i : Int))), x2, some (.ref q), x4, x5, x6, x7, x8, x9, x10, x11] H2
      have ok := au.ok
      have few60 : us.length ≤ 60 := by omega
      with_reducible refine set_of ?_
      with_reducible refine lc_var (q := q) rfl ?_
      with_reducible refine texts_lc (us := us) rfl ?_ hq2 few60 au ?_
      · show 11 < 12
        decide
      intro H3 tq s3 ht3
      have hq3 := s3 _ _ hq2
      have p3 := p2.same s3
      have t3 := tabs_same t2 s3
      have au3 := au.keep (Keep.of s3)
      show tSeq _ _ _ [some (.ref p), some (.int (0 + (i : Int))), x2, some (.ref q), some (.ref tq), x5, x6, x7, x8, x9, x10, x11] H3
      have uT : ∀ x, x ∈ us.map txt → unitV (.str x) = true ∧ x.length ≤ 50 := fun x hx => by
        obtain ⟨u, hu, rfl⟩ := List.mem_map.mp hx
        exact ⟨(ok u hu).unitV, (ok u hu).len⟩
      have okT : ((us.map txt).all fun x => PyData.strOk x) = true := by
        rw [List.all_eq_true]
        intro x hx
        obtain ⟨u, hu, rfl⟩ := List.mem_map.mp hx
        exact txt_ok (u := (u.2.1, u.2.2)) (ok u hu)
      have shT := shaped_str okT
      with_reducible refine ifd_of ?_
      with_reducible refine units_all (K := K) ?_ ?_ ?_ ?_ ht3 uT ?_
      · rfl
      · rfl
      · show 6 < 12
        decide
      · rfl
      intro H4 D4 s4 h4
      refine ⟨(by decide : (0 : Nat) ≤ sizeLine), fun e4 n4 _ => ?_⟩
      have s4' := s4.trans (same_new (o := .lst []) n4)
      refine diff_same (d := .list []) (.lst (SqL.of (same_new n4 _ _ h4)) .nil) (.lst (SqL.of upd_same) .nil) (by decide +kernel) ?_
      generalize upd H4 e4 (.lst []) = H5 at s4' ⊢
      have s35 := s4'
      show tSeq _ _ _ [some (.ref p), some (.int (0 + (i : Int))), x2, some (.ref q), some (.ref tq), x5, x6, x7, x8, x9, x10, x11] H5
      with_reducible refine ifd_of ?_
      with_reducible refine lc_var (q := q) rfl ?_
      have zs35 := s35 _ _ hq3
      have azs35 := au3.keep (Keep.of s35)
      with_reducible refine texts_lc (us := us) rfl ?_ zs35 few60 azs35 ?_
      · show 11 < 12
        decide
      intro H6 D6 s6 h6
      have s36 := s35.trans s6
      refine ⟨_, rfl, ?_⟩
      refine diff_same (.lst (SqL.of h6) (dpA_str _)) (.lst (SqL.of (s36 _ _ ht3)) (dpA_str _)) shT ?_
      show tSeq _ _ _ [some (.ref p), some (.int (0 + (i : Int))), x2, some (.ref q), some (.ref tq), x5, x6, x7, x8, x9, x10, x11] H6
      with_reducible refine ifd_of ?_
      have zs36 := s36 _ _ ht3
      with_reducible refine parts_lc (K := K) ?_ ?_ ?_ ?_ zs36 few60 ok ?_
      · rfl
      · rfl
      · show 6 < 12
        decide
      · rfl
      intro H7 D7 w7 s7 h7 lw7 R7
      have s37 := s36.trans s7
      have azs35 := au3.keep (Keep.of s37)
      have zs37 := s37 _ _ hq3
      with_reducible refine pairs_lc (K := K) (p := p) ?_ ?_ ?_ ?_ zs37 few60 azs35 ?_
      · rfl
      · rfl
      · show 11 < 12
        decide
      · rfl
      intro H8 D8 w8 s8 h8 lw8 R8
      have R7' : ∀ n v, w7[n]? = some v → PairR us D7 n v H8 := fun n v hv => pair_keep _ _ _ _ _ (Keep.of s8) (R7 n v hv)
      refine diff_same (.lst (SqL.of (s8 _ _ h7)) (pairs_dp lw7 R7')) (.lst (SqL.of h8) (pairs_dp lw8 R8)) (pairs_shaped ok) ?_
      have s38 := s37.trans s8
      show tSeq _ _ _ [some (.ref p), some (.int (0 + (i : Int))), x2, some (.ref q), some (.ref tq), x5, x6, x7, x8, x9, x10, x11] H8
      with_reducible refine set_of ?_
      with_reducible refine cb1_of ?_
      refine lc_src (PP := fun q' H' => ∃ L : List LU, Same H8 H' ∧ H' q' = some (.lst (L.map (·.1))) ∧ AllU H' p L ∧ (L.map txt).Pairwise (fun a b => rankU a < rankU b) ∧ (∀ x, x ∈ L.map txt ↔ x ∈ us.map txt) ∧ L.length ≤ us.length) (fun C h => ?_) fun q9 H9 h9 => ?_
      · exact ⟨_, rfl, p, q, us, rfl, s38 _ _ hq3, few60, au3.keep (Keep.of s38), fun H' q' L s hq' au' inc mem ln => h q' H' ⟨L, s, hq', au', inc, mem, ln⟩⟩
      obtain ⟨L, s9, hq9, au9, inc, mem, ln⟩ := h9
      with_reducible refine texts_lc (us := L) rfl ?_ hq9 (by omega) au9 ?_
      · show 11 < 12
        decide
      intro H10 D10 s10 h10
      refine ⟨D10, _, rfl, .inl ⟨SqL.of h10, fun due nd => ?_⟩⟩
      have s11 := same_new (o := .tup ((L.map txt).map V.str)) nd
      have hd : upd H10 due (.tup ((L.map txt).map V.str)) due = some (.tup ((L.map txt).map V.str)) := upd_same
      show tSeq _ _ _ [some (.ref p), some (.int (0 + (i : Int))), x2, some (.ref q), some (.ref tq), some (.ref due), x6, x7, x8, x9, x10, x11] (upd H10 due (.tup ((L.map txt).map V.str)))
      have s311 := ((s38.trans s9).trans s10).trans s11
      generalize upd H10 due (.tup ((L.map txt).map V.str)) = H11 at hd s311 ⊢
      have okL := au9.ok
      have lnM : (L.map txt).length ≤ 60 := by
        rw [List.length_map]
        omega
      have okLS : ((L.map txt).all fun x => PyData.strOk x) = true := by
        rw [List.all_eq_true]
        intro x hx
        exact List.all_eq_true.mp okT x ((mem x).mp hx)
      have shTup : SeqAt.shaped (.tuple ((L.map txt).map PyData.str)) = true := by
        refine shaped_by ?_ ?_
        · simp only [PyData.canLay0]
          exact lay_str _ okLS
        · simp only [PyData.depth]
          have := deep_str (L.map txt)
          omega
      have ht11 := s311 _ _ ht3
      with_reducible refine seq_of ?_
      refine ⟨_, rfl, _, rfl, 2, rfl, tq, _, rfl, SqL.of ht11, fun c12 n12 => ?_⟩
      have s12 := same_new (o := .lst (cutV ((us.map txt).map V.str) none (some 2))) n12
      refine .inr (.inl ⟨tq, c12, _, _, rfl, rfl, s12 _ _ ht11, upd_same, ?_, fun c13 n13 => ?_⟩)
      · rw [show (2 : Int) = ((2 : Nat) : Int) from rfl, cut_first, List.length_map, List.length_map, List.length_map, List.length_take, sizeLine_eq, List.length_map]
        omega
      have s13 := s12.trans (same_new (o := .lst ((us.map txt).map V.str ++ cutV ((us.map txt).map V.str) none (some 2))) n13)
      have h13 : upd (upd H11 c12 (.lst (cutV ((us.map txt).map V.str) none (some 2)))) c13 (.lst ((us.map txt).map V.str ++ cutV ((us.map txt).map V.str) none (some 2))) c13 = some (.lst ((us.map txt ++ (us.map txt).take 2).map V.str)) := by
        rw [upd_same, show (2 : Int) = ((2 : Nat) : Int) from rfl, cut_first, ← List.map_append]
      generalize upd (upd H11 c12 (.lst (cutV ((us.map txt).map V.str) none (some 2)))) c13 (.lst ((us.map txt).map V.str ++ cutV ((us.map txt).map V.str) none (some 2))) = H13 at s13 h13 ⊢
      have mem2 : ∀ x, x ∈ us.map txt ++ (us.map txt).take 2 ↔ x ∈ us.map txt := fun x => by
        rw [List.mem_append]
        exact ⟨fun h => h.elim id List.mem_of_mem_take, .inl⟩
      refine ⟨_, rfl, .inl ⟨c13, _, rfl, texts_lst h13 ?_ (fun x hx => (uT x ((mem2 x).mp hx)).2), ord_texts (LS := L.map txt) (fun x hx => (uT x ((mem2 x).mp hx)).1) inc (fun x => (mem x).trans (mem2 x).symm) fun H14 t14 s14 h14 => ?_⟩⟩
      · rw [List.length_append, List.length_take, List.length_map]
        omega
      have s1114 := s13.trans s14
      refine ⟨_, rfl, ?_⟩
      refine diff_same (.tup (SqT.of h14) (dpA_str _)) (.tup (SqT.of (s1114 _ _ hd)) (dpA_str _)) shTup ?_
      have ht14 := s1114 _ _ ht11
      refine ⟨_, rfl, tq, _, rfl, .inl ⟨SqL.of ht14, fun t15 n15 => ?_⟩⟩
      have s15 := same_new (o := .tup ((us.map txt).map V.str)) n15
      refine ⟨_, rfl, .inl ⟨t15, _, rfl, texts_tupS upd_same (by rw [List.length_map]; exact few60) (fun x hx => (uT x hx).2), ord_texts (LS := L.map txt) (fun x hx => (uT x hx).1) inc mem fun H16 t16 s16 h16 => ?_⟩⟩
      have s1116 := s1114.trans (s15.trans s16)
      refine ⟨_, rfl, ?_⟩
      refine diff_same (.tup (SqT.of h16) (dpA_str _)) (.tup (SqT.of (s1116 _ _ hd)) (dpA_str _)) shTup ?_
      with_reducible refine nx_of ?_
      have ht16 := s1116 _ _ ht11
      have hd16 := s1116 _ _ hd
      with_reducible refine ifd_of ?_
      refine ⟨_, rfl, .ref tq, rfl, .inl ⟨tq, _, rfl, texts_lst ht16 (by rw [List.length_map]; exact few60) (fun x hx => (uT x hx).2), ord_line (LS := L.map txt) (fun x hx => (uT x hx).1) inc mem fun H17 s17 => ?_⟩⟩
      refine line_or (fun a p ys H Q h1 h2 h3 => ⟨a, p, ys, rfl, rfl, .inr h1, h2, h3⟩) rfl (s17 _ _ hd16) lnM (fun x hx => ?_) ?_
      · obtain ⟨u, hu, rfl⟩ := List.mem_map.mp hx
        exact ⟨(okL u hu).len, txt_pos (u := (u.2.1, u.2.2)) (okL u hu)⟩
      refine diff_str ?_
      show tSeq _ _ _ [some (.ref p), some (.int (0 + (i : Int))), x2, some (.ref q), some (.ref tq), some (.ref due), x6, x7, x8, x9, x10, x11] H17
      have s317 := (s311.trans s1116).trans s17
      have p17 := p3.same s317
      have t17 := tabs_same t3 s317
      have ht17 := s17 _ _ ht16
      have tqp : tq ≠ p := fun z => by
        have e := p17.pen
        rw [← z, ht17] at e
        cases us with
        | nil => cases e
        | cons u us => cases e
      with_reducible refine seq_of ?_
      refine ⟨_, rfl, tq, rfl, ⟨_, SqL.of ht17⟩, ?_⟩
      refine for_list (xs := (us.map txt).map V.str) (fun n σ H' => ∃ y6 y9, σ = [some (.ref p), some (.int (0 + (i : Int))), x2, some (.ref q), some (.ref tq), some (.ref due), y6, x7, x8, y9, x10, x11] ∧ KeepN p H17 H' ∧ ∃ a' r', PenAt H' p l ns a' r' ∧ a' ≤ a2 + 3 * n ∧ LamX.Tabs TS H') ⟨_, _, rfl, KeepN.refl, a2, r2, p17, by omega, t17⟩ (fun n σ H' _ y => ?_) (fun n x σ J1 hx y => ?_) (fun σ J1 y => ?_)
      · obtain ⟨y6, y9, rfl, kn, _⟩ := y
        exact SqL.of (kn _ _ tqp ht17 fun _ z => nomatch z)
      · obtain ⟨y6, y9, rfl, kn, b1, q1, pj, lj, tj⟩ := y
        rw [List.getElem?_map] at hx
        obtain ⟨t, ht, rfl⟩ := Option.map_eq_some_iff.mp hx
        obtain ⟨u, hu, rfl⟩ := List.mem_map.mp (List.mem_of_getElem? ht)
        have pu := ok u hu
        have hn : n < 6 := by
          have := (List.getElem?_eq_some_iff.mp ht).1
          rw [List.length_map] at this
          omega
        with_reducible refine gn_of ?_
        with_reducible refine st_of (σ' := [some (.ref p), some (.int (0 + (i : Int))), x2, some (.ref q), some (.ref tq), some (.ref due), some (.str (txt u)), x7, x8, y9, x10, x11]) rfl ?_
        with_reducible refine set_of ?_
        refine ⟨_, rfl, _, rfl, p, l, ns, b1, q1, txt u, rfl, pj, by omega, txt_short (u := (u.2.1, u.2.2)) pu, txt_ok (u := (u.2.1, u.2.2)) pu, fun J2 b2 q2 bent k2' pj2 lj2 lb okb => ?_⟩
        have tj2 := tabs_keep tj pj.pen k2'
        show tSeq _ _ _ [some (.ref p), some (.int (0 + (i : Int))), x2, some (.ref q), some (.ref tq), some (.ref due), some (.str (txt u)), x7, x8, some (.str bent), x10, x11] J2
        with_reducible refine ifd_of ?_
        with_reducible refine cb1_of ?_
        refine ⟨_, rfl, _, rfl, kinds_str _, fun y e => by cases e; exact lb, fun J3 s3' => ?_⟩
        refine repr_bl ?_
        refine cb1_of ?_
        refine ⟨_, rfl, bent, rfl, lb, okb, fun J4 s4' => ?_⟩
        refine repr_bl ?_
        refine diff_str ?_
        show tIfS _ _ _ _ [some (.ref p), some (.int (0 + (i : Int))), x2, some (.ref q), some (.ref tq), some (.ref due), some (.str (txt u)), x7, x8, some (.str bent), x10, x11] J4
        have sJ := s3'.trans s4'
        have fin : ∀ J5, LamX.ExtN J4 J5 → LamX.Tabs TS J5 → ∃ y6 y9, [some (V.ref p), some (.int (0 + (i : Int))), x2, some (.ref q), some (.ref tq), some (.ref due), some (.str (txt u)), x7, x8, some (.str bent), x10, x11] = [some (V.ref p), some (.int (0 + (i : Int))), x2, some (.ref q), some (.ref tq), some (.ref due), y6, x7, x8, y9, x10, x11] ∧ KeepN p H17 J5 ∧ ∃ a' r', PenAt J5 p l ns a' r' ∧ a' ≤ a2 + 3 * ((n + 1 : Nat) : Int) ∧ LamX.Tabs TS J5 := fun J5 e5 t5 =>
          ⟨_, _, rfl, kn.trans ((k2'.n.trans (KeepN.same sJ)).trans (KeepN.ofExt e5)), b2, q2, pen_ext (pj2.same sJ) e5, by omega, t5⟩
        refine ⟨tabs_same tj2 sJ, fun J5 e5 tj5 J6 R s6' hR => ?_⟩
        have e6 := e5.trans (ext_same s6')
        refine ⟨_, rfl, _, rfl, kinds_str _, fun y e => by cases e; exact lb, fun x y ts J7 c1 c2 e sp wU s7' h2 h1 => ?_, fun z J7 d s7' ex => ?_⟩
        · cases e
          refine hR _ _ fun r nr => ?_
          have s8' := same_new (o := .lst [.ref c1]) nr
          refine ix_sq (.inr (SqL.of upd_same)) (atI_nat (j := 0) rfl) ?_
          have yok : PyData.strOk y = true := split_strOk okb (by rw [sp]; exact List.mem_cons_self)
          have e2 : (ts.map fun t => V.int (wholeNum t)) = (ts.map wholeNum).map V.int := by
            rw [List.map_map]
            rfl
          rw [e2] at h2
          have sh2 : SeqAt.shaped (.tuple [.str y, .tuple ((ts.map wholeNum).map PyData.int)]) = true := by
            refine shaped_by ?_ ?_
            · have := lay_int (ts.map wholeNum)
              simp only [PyData.canLay0, PyData.canLayAll0, yok, this, Bool.and_self]
            · have := deep_int (ts.map wholeNum)
              simp only [PyData.depth, PyData.depthAll]
              omega
          refine .inr ⟨_, .str "unit", .tup (SqT.of (s8' _ _ h1)) (.cons (.str _) (.cons (.tup (SqT.of (s8' _ _ h2)) (dpA_int _)) .nil)), .str _, sh2, by decide +kernel, _, rfl, ?_⟩
          refine ite2 (fun c => absurd c (by simp [PyData.eqv])) (fun _ => ?_)
          refine ite2 (fun c => absurd c (by decide)) (fun _ => ?_)
          exact fin _ (e6.trans (ext_same (s7'.trans s8'))) (tabs_same tj5 ((s6'.trans s7').trans s8'))
        · have lr : (PyData.str bent).shown.length ≤ sizeLine := by
            have a := StrLaws.reprText_len bent fun c hc => Nat.lt_of_lt_of_le (strOk_iff.mp okb c hc) (by decide)
            rw [sizeLine_eq]
            show (reprText bent).length ≤ _
            omega
          refine ⟨d, rfl, .inr ⟨rfl, .str bent, p, .str bent, ex, rds_str bent, rfl, (by show PyData.depth (.str bent) ≤ 60; simp [PyData.depth]), lr, fun J8 t s8' ht => ?_⟩⟩
          refine ix_sq (.inl (SqT.of ht)) (atI_nat (j := 0) rfl) ?_
          refine .inl ⟨rfl, _, rfl, ?_⟩
          refine ite2 (fun _ => ?_) (fun c => absurd (decide_eq_true rfl) c)
          refine ⟨_, rfl, bent, rfl, lb, okb, fun J9 s9' => ⟨_, rfl, ?_⟩⟩
          refine ite2 (fun c => absurd c (by rw [z]; decide)) (fun _ => ?_)
          exact fin _ (e6.trans (ext_same ((s7'.trans s8').trans s9'))) (tabs_same tj5 (((s6'.trans s7').trans s8').trans s9'))
      · obtain ⟨y6, y9, rfl, kn, b1, q1, pj, lj, tj⟩ := y
        have lj' : b1 ≤ a2 + 15 := by
          rw [List.length_map, List.length_map] at lj
          omega
        with_reducible refine set_of ?_
        refine (pick_by (i := 0) (C := fun H v => ∃ d, Wrong H p v d ∧ unitV v = false) rfl pj (by omega) (fun R hR => ?_) fun J2 b2 q2 odd k2' pj2 lj2 cO => ?_)
        · refine ⟨(by decide : (1 : Nat) ≤ sizeLine), fun tu nt => ?_⟩
          have m2 := same_new (o := .tup [.str "block 0"]) nt
          have tp' : tu ≠ p := (ne_of_none pj.pen nt).symm
          refine hR _ _ m2 (Nat.zero_lt_succ _) (by show 10 < 1000; decide) fun v mv H' kp => ?_
          simp only [List.mem_cons, List.not_mem_nil, or_false] at mv
          rcases mv with rfl | rfl | rfl | rfl | rfl | rfl | rfl | rfl | rfl | rfl
          · exact ⟨_, ⟨.non, by decide +kernel⟩, rfl⟩
          · exact ⟨_, ⟨.int 0, by decide +kernel⟩, rfl⟩
          · exact ⟨_, ⟨.str _ (by decide +kernel), by decide +kernel⟩, by decide +kernel⟩
          · exact ⟨_, ⟨.str _ (by decide +kernel), by decide +kernel⟩, by decide +kernel⟩
          · exact ⟨_, ⟨.bl true, by decide +kernel⟩, rfl⟩
          · exact ⟨_, ⟨.ts "block 0" (kp _ _ tp' upd_same) tp', by decide +kernel⟩, rfl⟩
          · exact ⟨_, ⟨.str _ (by decide +kernel), by decide +kernel⟩, by decide +kernel⟩
          · exact ⟨_, ⟨.str _ (by decide +kernel), by decide +kernel⟩, by decide +kernel⟩
          · exact ⟨_, ⟨.str _ (by decide +kernel), by decide +kernel⟩, by decide +kernel⟩
          · exact ⟨_, ⟨.str _ (by decide +kernel), by decide +kernel⟩, by decide +kernel⟩
        obtain ⟨dO, wO, nU⟩ := cO
        have tj2 := tabs_keep tj pj.pen k2'
        have ht2 := k2' _ _ tqp (kn _ _ tqp ht17 fun _ z => nomatch z)
        show tSeq (tAsg _ _) _ _ [some (.ref p), some (.int (0 + (i : Int))), x2, some (.ref q), some (.ref tq), some (.ref due), y6, some odd, x8, y9, x10, x11] J2
        with_reducible refine set_of ?_
        with_reducible refine log_new (TL := TS) (t := ("unit", .str dO.shown)) ?_ ?_ ?_
        rotate_left
        · rfl
        rotate_left
        · refine tells_unit tj2 wO.odd wO.shw fun H' Q' E' e h => ?_
          exact ⟨_, rfl, odd, rfl, (wO.odd.ext e).kinds, wO.odd.short, fun x y ts H3 c1 c2 ev sp wU _ _ _ => (by
            rw [ev] at nU
            have z : unitV (.str x) = true := by
              show unitL (Txt.split x " ") = true
              rw [sp]
              exact wU
            rw [nU] at z
            cases z), fun _ H3 x s3 ex => h H3 x s3 ex⟩
        intro J3 lg k3 n3 lg3
        have wO3 := wO.odd.at_ n3 k3
        have tql : tq ≠ lg := n3 _ _ ht2 fun _ z => nomatch z
        have ht3' := k3 _ _ tql ht2 fun _ z => nomatch z
        have plg : p ≠ lg := n3 _ _ pj2.pen fun _ z => nomatch z
        have llg : l ≠ lg := n3 _ _ pj2.nums fun _ z => nomatch z
        have pj3 : PenAt J3 p l ns b2 q2 := ⟨k3 _ _ plg pj2.pen (fun _ z => nomatch z), k3 _ _ llg pj2.nums (fun _ z => nomatch z), pj2.ne, pj2.few, pj2.from0, pj2.rest0⟩
        show tSeq (tDrop _) _ _ [some (.ref p), some (.int (0 + (i : Int))), x2, some (.ref q), some (.ref tq), some (.ref due), y6, some odd, some (.ref lg), y9, x10, x11] J3
        with_reducible refine seq_of ?_
        with_reducible refine log_app (t := ("unit", .str dO.shown)) ?_ lg3 (Nat.le_of_ble_eq_true rfl) ?_ ?_ ?_
        · rfl
        · refine tells_unit lg3.tabs wO3 wO.shw fun H' Q' E' e h => ?_
          have htq := e _ _ ht3' fun _ z => nomatch z
          refine ⟨_, rfl, _, rfl, (by decide : (2 : Nat) ≤ sizeLine), fun b nb _ => .inr (.inl ⟨tq, b, _, _, rfl, rfl, same_new nb _ _ htq, upd_same, ?_, fun c nc => ?_⟩)⟩
          · rw [List.length_map, List.length_map, sizeLine_eq]
            show us.length + 2 ≤ _
            omega
          have sb := (same_new (o := .lst [odd, .non]) nb).trans (same_new (o := .lst ((us.map txt).map V.str ++ [odd, .non])) nc)
          have oO := (wO3.ext e).same sb
          refine ⟨_, rfl, .inl ⟨c, _, rfl, seqv_of (.inr (SqL.of upd_same)) (fun H'' s => seqk_lst (s _ _ upd_same)) ?_ (fun u hu => ?_), (ord_bad (firstNo_odd (fun x hx => (uT x hx).1) nU) fun H3 x s3 ex => h H3 x (sb.trans s3) ex).1⟩⟩
          · rw [List.length_append, List.length_map, List.length_map]
            show us.length + 2 ≤ 60
            omega
          · rcases List.mem_append.mp hu with z | z
            · obtain ⟨x, hx, rfl⟩ := List.mem_map.mp z
              exact .inl ⟨x, rfl, (uT x hx).2⟩
            · simp only [List.mem_cons, List.not_mem_nil, or_false] at z
              rcases z with rfl | rfl
              · exact .inr (.inr ⟨lg, dO, oO⟩)
              · exact .inr (.inl rfl)
        · rfl
        intro J4 k4 lg4
        have wO4 := wO3.keepN k4
        have pj4 : PenAt J4 p l ns b2 q2 := ⟨k4 _ _ plg pj3.pen (fun _ z => nomatch z), k4 _ _ llg pj3.nums (fun _ z => nomatch z), pj3.ne, pj3.few, pj3.from0, pj3.rest0⟩
        with_reducible refine seq_of ?_
        with_reducible refine log_app (t := ("unit", .str dO.shown)) ?_ lg4 (Nat.le_of_ble_eq_true rfl) ?_ ?_ ?_
        · rfl
        · refine tells_unit lg4.tabs wO4 wO.shw fun H' Q' E' e h => ?_
          refine ⟨_, rfl, (by decide : (1 : Nat) ≤ sizeLine), fun b nb => ?_⟩
          have sb := same_new (o := .tup [odd]) nb
          have oO := (wO4.ext e).same sb
          have f1 : firstNo [odd] = some odd := by
            unfold firstNo
            rw [List.find?_cons_of_pos]
            rw [nU]
            rfl
          refine ⟨_, rfl, .inl ⟨b, _, rfl, seqv_of (.inl (SqT.of upd_same)) (fun H'' s => seqk_tup (s _ _ upd_same)) (Nat.le_of_ble_eq_true rfl) (fun u hu => ?_), (ord_bad f1 fun H3 x s3 ex => h H3 x (sb.trans s3) ex).2⟩⟩
          cases List.mem_singleton.mp hu
          exact .inr (.inr ⟨lg, dO, oO⟩)
        · rfl
        intro J5 k5 lg5
        have wO5 := wO4.keepN k5
        have pj5 : PenAt J5 p l ns b2 q2 := ⟨k5 _ _ plg pj4.pen (fun _ z => nomatch z), k5 _ _ llg pj4.nums (fun _ z => nomatch z), pj4.ne, pj4.few, pj4.from0, pj4.rest0⟩
        with_reducible refine seq_of ?_
        with_reducible refine log_pen (t := ("unit", .str "None")) (p := p) (PP := fun H' => (∃ a' r', PenAt H' p l ns a' r' ∧ a' ≤ b2 + 1) ∧ Odd H' lg odd dO) ?_ lg5 (Nat.le_of_ble_eq_true rfl) pj5.pen plg.symm ?_ ?_ ?_
        · rfl
        · rfl
        · intro Q' hQ
          refine ⟨lg5.tabs, fun H1 e1 t1 H2 R s2 _ => ?_⟩
          have e2 := e1.trans (ext_same s2)
          have pk := pen_ext pj5 e2
          refine (pick_by (i := 0) (C := fun H v => ∀ H', Same H H' → SeqK K H' v false) rfl pk (by omega) (fun R hR => ?_) fun H3 b3 q3 v k3' p3' l3' cv => ?_)
          · refine fun dd nd => ?_
            have dp : dd ≠ p := (ne_of_none pk.pen nd).symm
            refine hR _ _ (same_new nd) (Nat.zero_lt_succ _) (by show 4 < 1000; decide) fun v mv H' kp H'' s'' => ?_
            simp only [List.mem_cons, List.not_mem_nil, or_false] at mv
            rcases mv with rfl | rfl | rfl | rfl
            · exact no_seq (n := "NoneType") (.base .non) (by decide +kernel) (by decide +kernel)
            · exact no_seq (n := "str") (.base (.str _)) (by decide +kernel) (by decide +kernel)
            · exact no_seq (n := "dict") (.base (.dK (s'' _ _ (kp _ _ dp upd_same)))) (by decide +kernel) (by decide +kernel)
            · exact no_seq (n := "int") (.base (.int _)) (by decide +kernel) (by decide +kernel)
          · refine ⟨v, rfl, .inr ⟨cv, fun H4 x s4 ex => ⟨x, rfl, .inr ⟨rfl, .non, p, .none, ex, rds_non, rfl, by decide +kernel, by decide +kernel, fun H6 a s6 ha => ?_⟩⟩⟩⟩
            have kq := (KeepN.ofExt (p := p) e2).trans (k3'.n.trans (KeepN.same (s4.trans s6)))
            exact hQ _ a kq (tabs_same (tabs_keep (tabs_same t1 s2) pk.pen k3') (s4.trans s6)) ⟨⟨b3, q3, p3'.same (s4.trans s6), l3'⟩, odd_pen wO5 pj5 kq⟩ ha
        intro J6 J7 k6 pp6 k7 lg7
        obtain ⟨⟨b6, q6, pj6, lj6⟩, oO6⟩ := pp6
        have oO7 := oO6.keepN k7.n
        have pj7 : PenAt J7 p l ns b6 q6 := ⟨k7 _ _ plg pj6.pen, k7 _ _ llg pj6.nums, pj6.ne, pj6.few, pj6.from0, pj6.rest0⟩
        obtain ⟨sO1, sO2, sO3, sO4⟩ := shw_of wO.shw
        obtain ⟨⟨vs, hqv, told, len⟩, tabs7⟩ := lg7
        with_reducible refine seq_of ?_
        refine ⟨_, rfl, _, rfl, lg, odd, dO, rfl, oO7.rds, sO1, sO2, Nat.le_trans sO3 (by rw [sizeLine_eq]; decide), (by decide : (2 : Nat) ≤ sizeLine), fun t1' n1 => ⟨(by decide : (1 : Nat) ≤ sizeLine), fun l1' m1 _ => ?_⟩⟩
        have y1 := same_new (o := .tup [.str "unit", .str dO.shown]) n1
        have g1 : upd J7 t1' (.tup [.str "unit", .str dO.shown]) t1' = some (.tup [.str "unit", .str dO.shown]) := upd_same
        have y2 := same_new (o := .lst [.ref t1']) m1
        have g1' := y2 _ _ g1
        have g2 : upd (upd J7 t1' (.tup [.str "unit", .str dO.shown])) l1' (.lst [.ref t1']) l1' = some (.lst [.ref t1']) := upd_same
        have y12 := y1.trans y2
        generalize upd (upd J7 t1' (.tup [.str "unit", .str dO.shown])) l1' (.lst [.ref t1']) = J8 at y12 g1' g2 ⊢
        refine .inr (.inl ⟨l1', 3, [.ref t1'], rfl, rfl, g2, by decide, by decide, (by decide : (3 : Nat) ≤ sizeLine), fun l2' m2 => ?_⟩)
        have y3 := same_new (o := .lst [.ref t1', .ref t1', .ref t1']) m2
        have g3 : upd J8 l2' (.lst [.ref t1', .ref t1', .ref t1']) l2' = some (.lst [.ref t1', .ref t1', .ref t1']) := upd_same
        have g1'' := y3 _ _ g1'
        have y13 := y12.trans y3
        show tCons _ _ _ (upd J8 l2' (.lst [.ref t1', .ref t1', .ref t1'])) _
        generalize upd J8 l2' (.lst [.ref t1', .ref t1', .ref t1']) = J9 at y13 g1'' g3 ⊢
        refine ⟨(by decide : (2 : Nat) ≤ sizeLine), fun t2' n2 => ⟨(by decide : (1 : Nat) ≤ sizeLine), fun l3' m3 _ => ?_⟩⟩
        have z1 := same_new (o := .tup [.str "unit", .str "None"]) n2
        have z2 := same_new (o := .lst [.ref t2']) m3
        have b2' := z2 _ _ (upd_same (H := J9) (a := t2') (o := .tup [.str "unit", .str "None"]))
        have g5 : upd (upd J9 t2' (.tup [.str "unit", .str "None"])) l3' (.lst [.ref t2']) l3' = some (.lst [.ref t2']) := upd_same
        have z12 := z1.trans z2
        generalize upd (upd J9 t2' (.tup [.str "unit", .str "None"])) l3' (.lst [.ref t2']) = J10 at z12 b2' g5 ⊢
        refine .inr (.inl ⟨l2', l3', [.ref t1', .ref t1', .ref t1'], [.ref t2'], rfl, rfl, z12 _ _ g3, g5, (by decide : (4 : Nat) ≤ sizeLine), fun l4' m4 => ?_⟩)
        have z3 := same_new (o := .lst [.ref t1', .ref t1', .ref t1', .ref t2']) m4
        have c1 := z3 _ _ (z12 _ _ g1'')
        have c2 := z3 _ _ b2'
        have hd6 : upd J10 l4' (.lst [.ref t1', .ref t1', .ref t1', .ref t2']) l4' = some (.lst [.ref t1', .ref t1', .ref t1', .ref t2']) := upd_same
        have dueT : Told (upd J10 l4' (.lst [.ref t1', .ref t1', .ref t1', .ref t2'])) l4' [.ref t1', .ref t1', .ref t1', .ref t2'] [("unit", .str dO.shown), ("unit", .str dO.shown), ("unit", .str dO.shown), ("unit", .str "None")] := by
          have ne : ∀ {b : Addr} {o : HO}, J10 b = some o → b ≠ l4' := fun h => ne_of_none h m4
          exact .cons c1 (ne (z12 _ _ g1'')) rfl (.cons c1 (ne (z12 _ _ g1'')) rfl (.cons c1 (ne (z12 _ _ g1'')) rfl (.cons c2 (ne b2') rfl .nil)))
        have y9' := (y13.trans z12).trans z3
        show rDiff _ _ _ (upd J10 l4' (.lst [.ref t1', .ref t1', .ref t1', .ref t2'])) _
        generalize upd J10 l4' (.lst [.ref t1', .ref t1', .ref t1', .ref t2']) = J11 at y9' dueT hd6 ⊢
        have told' := told.keepN (KeepN.same y9')
        have ok4 : tsOk [("unit", .str dO.shown), ("unit", .str dO.shown), ("unit", .str dO.shown), ("unit", .str "None")] = true := rfl
        have lay4 : layT [("unit", .str dO.shown), ("unit", .str dO.shown), ("unit", .str dO.shown), ("unit", .str "None")] = true := by
          have u0 : PyData.strOk "unit" = true := by decide +kernel
          have u2 : PyData.strOk "None" = true := by decide +kernel
          simp only [layT, u0, u2, sO4, Bool.and_self]
        refine diff_same (.lst (SqL.of (y9' _ _ hqv)) (told'.dp ok4)) (.lst (SqL.of hd6) (dueT.dp ok4)) (shaped_tell lay4) ?_
        have oO11 := oO7.same y9'
        refine ⟨_, rfl, odd, rfl, oO11.kinds, oO11.short, fun J12 s12' => ⟨_, rfl, ?_⟩⟩
        refine ite2 (fun c => absurd c (by rw [nU]; decide)) (fun _ => ?_)
        have yy := y9'.trans s12'
        refine ⟨_, rfl, p, l, ns, b6, q6, rfl, pj7.same yy, by omega, tabs_same tabs7 yy, fun J13 b13 q13 k13 t13 pj13 lj13 => ⟨_, rfl, ?_⟩⟩
        refine ite2 (fun c => absurd c (by decide)) (fun _ => ?_)
        exact ⟨_, _, _, _, _, _, _, _, _, _, _, rfl, b13, q13, pj13, by omega, t13⟩
    · obtain ⟨x1, x2, x3, x4, x5, x6, x7, x8, x9, x10, x11, rfl, a1, r1, p1, l1, t1⟩ := y
      have uoJ : unitOfR (.str "journal") [] = .text "journal" := by
        show (if isWord "journal" = true then (match firstBad "journal" 0 [] with | some u => UO.unit u | none => if (([] : List V).length : Int) = numOf "journal" then .text (textOf "journal" (([] : List V).map intOf)) else .count ([] : List V).length) else .unit (.str "journal")) = _
        rw [if_pos (by decide +kernel)]
        show (if (([] : List V).length : Int) = numOf "journal" then UO.text (textOf "journal" (([] : List V).map intOf)) else .count ([] : List V).length) = _
        rw [if_pos (by decide +kernel)]
        exact congrArg UO.text (by decide +kernel)
      have allU : ∀ {M : List Str}, (M.all fun x => unitV (.str x) && decide (x.length ≤ 50)) = true → (∀ x, x ∈ M → unitV (.str x) = true) ∧ ∀ x, x ∈ M → x.length ≤ 50 := fun h =>
        ⟨fun x hx => (Bool.and_eq_true_iff.mp (List.all_eq_true.mp h x hx)).1, fun x hx => of_decide_eq_true (Bool.and_eq_true_iff.mp (List.all_eq_true.mp h x hx)).2⟩
      with_reducible refine seq_of ?_
      refine ⟨.str "journal", [], rfl, fun _ _ => kinds_str _, (fun u hu => by cases hu), by decide, (fun y e => by cases e; decide +kernel), ?_⟩
      rw [uoJ]
      intro H2 s2
      refine diff_str ?_
      refine ⟨_, rfl, kinds_str _, (fun y e => by cases e; decide +kernel), fun x y ts H3 c1 c2 ev sp wU s3 h2 h1 => ?_, fun z => absurd z (by decide +kernel)⟩
      cases ev
      have spl : Txt.split "cell 1 0" " " = (["cell", "1", "0"] : List Str) := by decide +kernel
      rw [spl] at sp
      cases sp
      have e2 : ((["1", "0"] : List Str).map fun t => V.int (wholeNum t)) = [V.int 1, V.int 0] := by decide +kernel
      rw [e2] at h2
      refine ⟨(by decide : (2 : Nat) ≤ sizeLine), fun ti ni => ⟨(by decide : (2 : Nat) ≤ sizeLine), fun to no => ?_⟩⟩
      have m1 := same_new (o := .tup [.int 1, .int 0]) ni
      have m2 := same_new (o := .tup [.str "cell", .ref ti]) no
      have m12 := m1.trans m2
      refine diff_same (d := .tuple [.str "cell", .tuple [.int 1, .int 0]]) (.tup (SqT.of (m12 _ _ h1)) (.cons (.str _) (.cons (.tup (SqT.of (m12 _ _ h2)) (.cons (.int _) (.cons (.int _) .nil))) .nil))) (.tup (SqT.of upd_same) (.cons (.str _) (.cons (.tup (SqT.of (m2 _ _ upd_same)) (.cons (.int _) (.cons (.int _) .nil))) .nil))) (by decide +kernel) ?_
      have y3 := s2.trans (s3.trans m12)
      generalize upd (upd H3 ti (.tup [.int 1, .int 0])) to (.tup [.str "cell", .ref ti]) = H4 at y3 ⊢
      with_reducible refine nx_of ?_
      with_reducible refine set_of ?_
      refine ⟨(by decide : (2 : Nat) ≤ sizeLine), fun bo nb _ => ?_⟩
      have y4 := y3.trans (same_new (o := .lst ((["cell 2 0", "cell 1 10"] : List Str).map V.str)) nb)
      have hb : upd H4 bo (.lst ((["cell 2 0", "cell 1 10"] : List Str).map V.str)) bo = some (.lst ((["cell 2 0", "cell 1 10"] : List Str).map V.str)) := upd_same
      show tSeq (tIfS _ _ _) _ _ [some (.ref p), x1, some (.ref bo), x3, x4, x5, x6, x7, x8, x9, x10, x11] (upd H4 bo (.lst ((["cell 2 0", "cell 1 10"] : List Str).map V.str)))
      generalize upd H4 bo (.lst ((["cell 2 0", "cell 1 10"] : List Str).map V.str)) = H5 at y4 hb ⊢
      with_reducible refine seq_of ?_
      refine ⟨(by decide : (1 : Nat) ≤ sizeLine), fun b2 nb2 _ => ?_⟩
      have A1 := allU (M := ["page 0"]) (by decide +kernel)
      refine ⟨_, rfl, .inl ⟨b2, _, rfl, texts_lst (L := ["page 0"]) upd_same (by decide) A1.2, ord_line (LS := ["page 0"]) A1.1 (by decide +kernel) (fun x => Iff.rfl) fun H6 s6 => ?_⟩⟩
      have y6 := y4.trans ((same_new nb2).trans s6)
      have hb6 := s6 _ _ (same_new nb2 _ _ hb)
      have e6 : unitsLine ["page 0"] = "page 0" := by decide +kernel
      rw [e6]
      refine diff_str ?_
      have A2 := allU (M := ["cell 2 0", "cell 1 10"]) (by decide +kernel)
      refine ⟨_, rfl, _, rfl, .inl ⟨bo, _, rfl, texts_lst hb6 (by decide) A2.2, ord_texts (LS := ["cell 1 10", "cell 2 0"]) A2.1 (by decide +kernel) (fun x => (by decide +kernel : List.Perm (["cell 1 10", "cell 2 0"] : List Str) ["cell 2 0", "cell 1 10"]).mem_iff) fun H7 t7 s7 h7 => ?_⟩⟩
      refine ⟨(by decide : (2 : Nat) ≤ sizeLine), fun t8 n8 => ?_⟩
      have m8 := same_new (o := .tup [.str "cell 1 10", .str "cell 2 0"]) n8
      refine diff_same (.tup (SqT.of (m8 _ _ h7)) (dpA_str ["cell 1 10", "cell 2 0"])) (.tup (SqT.of upd_same) (dpA_str ["cell 1 10", "cell 2 0"])) (by decide +kernel) ?_
      have y8 := y6.trans (s7.trans m8)
      generalize upd H7 t8 (.tup [.str "cell 1 10", .str "cell 2 0"]) = H8 at y8 ⊢
      with_reducible refine nx_of ?_
      refine ⟨(by decide : (5 : Nat) ≤ sizeLine), fun b9 n9 _ => ?_⟩
      have A3 := allU (M := ["block 10", "journal", "block 9", "cell 1 10", "cell 1 9"]) (by decide +kernel)
      refine ⟨_, rfl, .inl ⟨b9, _, rfl, texts_lst (L := ["block 10", "journal", "block 9", "cell 1 10", "cell 1 9"]) upd_same (by decide) A3.2, ord_texts (LS := ["journal", "block 9", "block 10", "cell 1 9", "cell 1 10"]) A3.1 (by decide +kernel) (fun x => (by decide +kernel : List.Perm (["journal", "block 9", "block 10", "cell 1 9", "cell 1 10"] : List Str) ["block 10", "journal", "block 9", "cell 1 10", "cell 1 9"]).mem_iff) fun H10 t10 s10 h10 => ?_⟩⟩
      refine ⟨(by decide : (5 : Nat) ≤ sizeLine), fun t11 n11 => ?_⟩
      have m11 := same_new (o := .tup ((["journal", "block 9", "block 10", "cell 1 9", "cell 1 10"] : List Str).map V.str)) n11
      refine .inr ⟨_, _, .tup (SqT.of (m11 _ _ h10)) (dpA_str ["journal", "block 9", "block 10", "cell 1 9", "cell 1 10"]), .tup (SqT.of upd_same) (dpA_str ["journal", "block 9", "block 10", "cell 1 9", "cell 1 10"]), by decide +kernel, by decide +kernel, ?_⟩
      have y11 := y8.trans ((same_new n9).trans (s10.trans m11))
      rw [same_data (by decide +kernel)]
      have b8 : ((8 : Int).toNat : Int) = 8 := rfl
      exact k _ a1 r1 (tabs_same t1 y11) (p1.same y11) (by omega)
end
end L2.K32
set_option Elab.async false
set_option linter.all false
set_option maxRecDepth 100000
set_option maxHeartbeats 4000000
/-! The law itself. -/
namespace L2.K32
open PySem PySem.Spec PyProof.Rows L2.RV
/-- law(script) -/
def spLaw (K : PySem.W.Frag) (TS : List (Addr × Str)) : Sp := fun vs H Q _ => ∃ (a : Addr) (ns : List Int), vs = [.ref a] ∧ SqL K H a (ns.map V.int) ∧ ns.length ≤ 63 ∧ LamX.Tabs TS H ∧ ∀ H', Q (.bl true) H'
section
variable {P : Program} {w : World} {K : PySem.W.Frag} {mg : Str → Option Value} {base : Heap} {fd : FuncData}
theorem ok_law {TS : List (Addr × Str)} (T : Top w K mg) (D_law_pen : Def P w K mg base "_law_pen" 1 ["_law_script"] (spPen K)) (D_law_units_right : DefG P w K mg base "_law_units_right" 11 ["_law_pen_here"] (spLUnits TS)) (D_law_texts_right : DefG P w K mg base "_law_texts_right" 14 ["_law_pen_here"] (spLTexts TS)) (F : Fn K "law" s_law fd) : FnG P w K mg base CX0 15 (He.ga K "law") fd ["_law_script"] (spLaw K TS) := by
  refine okG F sc_law (fun vs H Q E h => ?_) (fun cdv A outer s H vs Q E hgu hr h => ?_)
  · obtain ⟨a, ns, rfl, _⟩ := h
    rfl
  · obtain ⟨a, ns, rfl, hS, few, tabs, k⟩ := h
    have hu := hr.units
    refine ⟨_, PSs.nox (pss_cons (ps_set (i := 1) sc_law.nd rfl (by first | exact Or.inl rfl | exact Or.inr rfl) (pe_callD D_law_pen (hr.mono (by decide)) rfl (pa_cons (pv 0) pa_nil)))
      (pss_one (ps_ret (pe_and (pe_callDG D_law_units_right hgu (hr.mono (by decide)) rfl (pa_cons (pv 1) pa_nil)) (pe_one (pe_callDG D_law_texts_right hgu (hr.mono (by decide)) rfl (pa_cons (pv 1) pa_nil))))))), ?_⟩
    with_reducible refine set_of ?_
    refine ⟨_, rfl, a, ns, rfl, hS, few, fun H1 p l ns' s1 np pa => ?_⟩
    refine ⟨_, rfl, p, l, ns', 0, 0, rfl, pa, by decide, tabs_same tabs s1, fun H2 a2 r2 t2 p2 l2 => ⟨_, rfl, ?_⟩⟩
    exact ⟨_, rfl, p, l, ns', a2, r2, rfl, p2, by omega, t2, fun H3 => k H3⟩
end
end L2.K32
set_option Elab.async false
set_option linter.all false
set_option maxRecDepth 100000
set_option maxHeartbeats 4000000
/-! The rank of a unit, by its word and its numbers. -/
namespace L2.K32
open PySem PySem.Spec PyProof.Rows L2.RV
theorem cut2 (ns : List Int) : cutV (ns.map V.int ++ [V.int 0, V.int 0]) none (some 2) = [V.int (firstOf ns), V.int (secondOf ns)] := by
  have e1 : ∀ n d, HT.sIx (n + 2) d (some 2) = 2 := fun n d => by
    unfold HT.sIx
    simp
  unfold cutV
  match ns with
  | [] => rfl
  | [a] => rfl
  | a :: b :: r =>
    rw [show ((a :: b :: r).map V.int ++ [V.int 0, V.int 0]).length = ((r.map V.int ++ [V.int 0, V.int 0]).length) + 2 from rfl, e1]
    rfl
section
variable {P : Program} {w : World} {K : PySem.W.Frag} {mg : Str → Option Value} {h base : Heap} {fd : FuncData}
theorem places_at {y : Str} (T : Top w K mg) (hb : isWord y = true) : KDct K w (He.ga K "PLACES") y (.int (wordIx y)) := by
  obtain ⟨es, n, D⟩ := T.d_PLACES
  have at_ : ∀ q, q ∈ ([("journal", .int 0), ("block", .int 1), ("page", .int 2), ("cell", .int 3), ("bucket", .int 4), ("parity", .int 5)] : List (Str × He.Dv)) → y = q.1 → He.Dv.v K q.2 = .int (wordIx y) → KDct K w (He.ga K "PLACES") y (.int (wordIx y)) := fun q hq e ev => by
    obtain ⟨u, hu, ru⟩ := T.v_PLACES q hq
    rw [← e] at hu
    rw [ev] at ru
    exact ⟨es, n, u, D.at_, D.lit, hu, ru⟩
  obtain ⟨z, hz, e⟩ := List.any_eq_true.mp hb
  have e' : z = y := LawfulBEq.eq_of_beq e
  subst e'
  unfold units6 at hz
  simp only [List.mem_cons, List.not_mem_nil, or_false] at hz
  rcases hz with rfl | rfl | rfl | rfl | rfl | rfl
  · exact at_ ("journal", .int 0) (by simp) rfl rfl
  · exact at_ ("block", .int 1) (by simp) rfl rfl
  · exact at_ ("page", .int 2) (by simp) rfl rfl
  · exact at_ ("cell", .int 3) (by simp) rfl rfl
  · exact at_ ("bucket", .int 4) (by simp) rfl rfl
  · exact at_ ("parity", .int 5) (by simp) rfl rfl
theorem ok_rank (T : Top w K mg) (F : Fn K "rank" s_rank fd) : FnOk P w K mg base CX0 2 (He.ga K "rank") fd ["word", "numbers"] (spRank K) := by
  refine F.ok sc_rank (fun vs H Q E h => ?_) (fun cdv A outer s H vs Q E hr h => ?_)
  · obtain ⟨x, p, ns, rfl, _⟩ := h
    rfl
  · obtain ⟨x, p, ns, rfl, hw, sq, few, k⟩ := h
    have hu := hr.units
    refine ⟨_, PSs.nox (pss_cons (ps_asg (pe_slice sl_list (pe_lstN (StX.pa_star (pv 1) (pa_cons pe_int (pa_cons pe_int pa_nil)))) po_none (po_some pe_int)) (pg_unl rfl (pgs_cons (pg_name (i := 2) sc_rank.nd rfl (by first | exact Or.inl rfl | exact Or.inr rfl)) (pgs_cons (pg_name (i := 3) sc_rank.nd rfl (by first | exact Or.inl rfl | exact Or.inr rfl)) pgs_nil))))
      (pss_one (ps_ret (pe_op op_plus (pe_op op_times (pe_op op_plus (pe_op op_times (pe_ix ix_kdict (pe_glob (v := .ref (He.ga K "PLACES")) rfl T.g_PLACES rfl) (pv 0) (fun _ _ => rfl)) (pe_op op_plus (pe_globE rfl T.i_MOST) pe_int)) (pv 2)) (pe_op op_plus (pe_globE rfl T.i_MOST) pe_int)) (pv 3))))), ?_⟩
    refine ⟨_, rfl, p, _, rfl, sq, by rw [List.length_append, List.length_map, sizeLine_eq]; show ns.length + 2 ≤ _; omega, fun l nl _ => ?_⟩
    refine ⟨_, rfl, l, _, rfl, SqL.of upd_same, fun p2 np2 => ?_⟩
    have s1 := same_new (o := .lst (ns.map V.int ++ [V.int 0, V.int 0])) nl
    rw [show (ns.map V.int ++ (V.int 0 :: V.int 0 :: [])) = ns.map V.int ++ [V.int 0, V.int 0] from rfl, cut2]
    have s2 := same_new (o := .lst [V.int (firstOf ns), V.int (secondOf ns)]) np2
    refine ⟨p2, _, rfl, SqL.of upd_same, rfl, _, _, rfl, _, _, rfl, rfl, ?_⟩
    refine ⟨_, rfl, _, x, .int (wordIx x), rfl, rfl, places_at T hw, .inl ⟨_, _, rfl, rfl, .inl ⟨_, _, rfl, rfl, .inr ⟨by decide, by decide⟩, _, rfl, .inl ⟨_, _, rfl, rfl, .inl ⟨_, _, rfl, rfl, .inl ⟨_, _, rfl, rfl, .inr ⟨by decide, by decide⟩, _, rfl, .inl ⟨_, _, rfl, rfl, ?_⟩⟩⟩⟩⟩⟩⟩
    exact k _ (s1.trans s2)
end
end L2.K32
set_option Elab.async false
set_option linter.all false
set_option maxRecDepth 100000
set_option maxHeartbeats 4000000
/-! All defs together; the law holds. -/
namespace L2.K32
open PySem PySem.Spec PyProof.Rows L2.RV
/-- the tables, with the names of their lambdas -/
def TSK (K : PySem.W.Frag) : List (Addr × Str) := [((He.cT K ("_law_refused_right", none)).2, qRefused), ((He.cT K ("_law_units_right", none)).2, qUnits), ((He.cT K ("_law_row_right", none)).2, qRow), ((He.cT K ("_law_texts_right", none)).2, qTexts)]
theorem four_q {a b c d : Addr} {x y z u : Str} (nd : [a, b, c, d].Nodup) : ∀ p ∈ [(a, x), (b, y), (c, z), (d, u)], (p.1 = a → p.2 = x) ∧ (p.1 = b → p.2 = y) ∧ (p.1 = c → p.2 = z) ∧ (p.1 = d → p.2 = u) := by
  simp only [List.nodup_cons, List.mem_cons, List.not_mem_nil, or_false, not_or] at nd
  obtain ⟨⟨n1, n2, n3⟩, ⟨n4, n5⟩, n6, _⟩ := nd
  intro p hp
  simp only [List.mem_cons, List.not_mem_nil, or_false] at hp
  rcases hp with rfl | rfl | rfl | rfl
  · exact ⟨fun _ => rfl, fun e => absurd e n1, fun e => absurd e n2, fun e => absurd e n3⟩
  · exact ⟨fun e => absurd e.symm n1, fun _ => rfl, fun e => absurd e n4, fun e => absurd e n5⟩
  · exact ⟨fun e => absurd e.symm n2, fun e => absurd e.symm n4, fun _ => rfl, fun e => absurd e n6⟩
  · exact ⟨fun e => absurd e.symm n3, fun e => absurd e.symm n5, fun e => absurd e.symm n6, fun _ => rfl⟩
section
variable {P : Program} {w : World} {K : PySem.W.Frag} {mg : Str → Option Value} {h base : Heap} {f : Addr}
theorem tsk_q (nd : (tf.map fun p => (He.cT K p).2).Nodup) : ∀ p ∈ TSK K, (p.1 = (He.cT K ("_law_refused_right", none)).2 → p.2 = qRefused) ∧ (p.1 = (He.cT K ("_law_units_right", none)).2 → p.2 = qUnits) ∧ (p.1 = (He.cT K ("_law_row_right", none)).2 → p.2 = qRow) ∧ (p.1 = (He.cT K ("_law_texts_right", none)).2 → p.2 = qTexts) := four_q nd
theorem no_field (c : SaysRT chk fn tabs w K) (i : Nat) {p : Str × List Str} (hp : inis[i]? = some p) (x : Str) (m : x ∈ p.2) : PySem.W.findIn K (.ref (He.ga K p.1)) x = some none :=
  (iniB_ok (List.all_eq_true.mp (ba2 (ba2 c.d.look).2).1 _ (List.mem_of_getElem? hp))).2.2 x m
theorem def_law_pen (X : K.In h) (G : h.Ns mainGlobals mg) (c : SaysRT chk fn tabs w K) : Def P w K mg base "_law_pen" 1 ["_law_script"] (spPen K) := by
  obtain ⟨fd, F⟩ := c.d.def_ 19 (d := d_law_pen) rfl
  exact ⟨_, fd, glo_fn X G c.d (List.mem_of_getElem? (i := 19) rfl), F.kp, F.bindsN (fun _ _ _ _ _ _ us hl => match us, hl with | [_], _ => rfl), ok_law_pen (top_of X G c) F⟩
theorem def_law_draw (X : K.In h) (G : h.Ns mainGlobals mg) (c : SaysRT chk fn tabs w K) : Def P w K mg base "_law_draw" 1 ["_law_pen_here", "_law_many"] spDraw := by
  obtain ⟨fd, F⟩ := c.d.def_ 20 (d := d_law_draw) rfl
  exact ⟨_, fd, glo_fn X G c.d (List.mem_of_getElem? (i := 20) rfl), F.kp, F.bindsN (fun _ _ _ _ _ _ us hl => match us, hl with | [_, _], _ => rfl), ok_law_draw (top_of X G c) F⟩
theorem def_law_pick (X : K.In h) (G : h.Ns mainGlobals mg) (c : SaysRT chk fn tabs w K) : Def P w K mg base "_law_pick" 2 ["_law_pen_here", "_law_some"] spPick := by
  obtain ⟨fd, F⟩ := c.d.def_ 21 (d := d_law_pick) rfl
  exact ⟨_, fd, glo_fn X G c.d (List.mem_of_getElem? (i := 21) rfl), F.kp, F.bindsN (fun _ _ _ _ _ _ us hl => match us, hl with | [_, _], _ => rfl), ok_law_pick (top_of X G c) (def_law_draw X G c) F⟩
theorem def_law_unit (X : K.In h) (G : h.Ns mainGlobals mg) (c : SaysRT chk fn tabs w K) : Def P w K mg base "_law_unit" 3 ["_law_pen_here"] spLUnit := by
  obtain ⟨fd, F⟩ := c.d.def_ 23 (d := d_law_unit) rfl
  exact ⟨_, fd, glo_fn X G c.d (List.mem_of_getElem? (i := 23) rfl), F.kp, F.bindsN (fun _ _ _ _ _ _ us hl => match us, hl with | [_], _ => rfl), ok_law_unit (top_of X G c) (def_law_draw X G c) (def_law_pick X G c) F⟩
theorem def_law_text (X : K.In h) (G : h.Ns mainGlobals mg) (c : SaysRT chk fn tabs w K) : Def P w K mg base "_law_text" 1 ["_law_unit_here"] spLText := by
  obtain ⟨fd, F⟩ := c.d.def_ 24 (d := d_law_text) rfl
  exact ⟨_, fd, glo_fn X G c.d (List.mem_of_getElem? (i := 24) rfl), F.kp, F.bindsN (fun _ _ _ _ _ _ us hl => match us, hl with | [_], _ => rfl), ok_law_text (top_of X G c) F⟩
theorem R_BadUnit (X : K.In h) (G : h.Ns mainGlobals mg) (c : SaysRT chk fn tabs w K) : RzX P w K mg base "BadUnit" (ca K 2) ["value"] := rz_BadUnit (top_of X G c) c
theorem R_BadCount (X : K.In h) (G : h.Ns mainGlobals mg) (c : SaysRT chk fn tabs w K) : RzX P w K mg base "BadCount" (ca K 3) ["value"] := rz_BadCount (top_of X G c) c
theorem def_is_whole (X : K.In h) (G : h.Ns mainGlobals mg) (c : SaysRT chk fn tabs w K) : Def P w K mg base "is_whole" 1 ["value"] (spWhole K) := by
  obtain ⟨fd, F⟩ := c.d.def_ 0 (d := d_is_whole) rfl
  exact ⟨_, fd, glo_fn X G c.d (List.mem_of_getElem? (i := 0) rfl), F.kp, F.bindsN (fun _ _ _ _ _ _ us hl => match us, hl with | [_], _ => rfl), ok_is_whole (top_of X G c) F⟩
theorem def_is_whole_from (X : K.In h) (G : h.Ns mainGlobals mg) (c : SaysRT chk fn tabs w K) : Def P w K mg base "is_whole_from" 2 ["value", "low", "high"] (spFrom K) := by
  obtain ⟨fd, F⟩ := c.d.def_ 1 (d := d_is_whole_from) rfl
  exact ⟨_, fd, glo_fn X G c.d (List.mem_of_getElem? (i := 1) rfl), F.kp, F.bindsN (fun _ _ _ _ _ _ us hl => match us, hl with | [_, _, _], _ => rfl), ok_is_whole_from (top_of X G c) (def_is_whole X G c) F⟩
theorem def_is_number (X : K.In h) (G : h.Ns mainGlobals mg) (c : SaysRT chk fn tabs w K) : Def P w K mg base "is_number" 3 ["word", "at", "value"] (spNumber K) := by
  obtain ⟨fd, F⟩ := c.d.def_ 6 (d := d_is_number) rfl
  exact ⟨_, fd, glo_fn X G c.d (List.mem_of_getElem? (i := 6) rfl), F.kp, F.bindsN (fun _ _ _ _ _ _ us hl => match us, hl with | [_, _, _], _ => rfl), ok_is_number (top_of X G c) (def_is_whole_from X G c) F⟩
theorem def_text_of (X : K.In h) (G : h.Ns mainGlobals mg) (c : SaysRT chk fn tabs w K) : Def P w K mg base "text_of" 1 ["word", "numbers"] (spTextOf K) := by
  obtain ⟨fd, F⟩ := c.d.def_ 18 (d := d_text_of) rfl
  exact ⟨_, fd, glo_fn X G c.d (List.mem_of_getElem? (i := 18) rfl), F.kp, F.bindsN (fun _ _ _ _ _ _ us hl => match us, hl with | [_, _], _ => rfl), ok_text_of (top_of X G c) F⟩
theorem def_unit_of (X : K.In h) (G : h.Ns mainGlobals mg) (c : SaysRT chk fn tabs w K) : DefR (L2.CX P w) P w K mg base "unit_of" 4 "word" (spUnitOf K) := by
  obtain ⟨fd, F⟩ := c.d.def_ 7 (d := d_unit_of) rfl
  exact ok_unit_of (top_of X G c) (R_BadUnit X G c) (R_BadCount X G c) (def_is_number X G c) (def_text_of X G c) (glo_fn X G c.d (List.mem_of_getElem? (i := 7) rfl)) F
theorem def_law_made (X : K.In h) (G : h.Ns mainGlobals mg) (c : SaysRT chk fn tabs w K) : Def P w K mg base "_law_made" 5 ["_law_unit_here"] spLText := by
  obtain ⟨fd, F⟩ := c.d.def_ 25 (d := d_law_made) rfl
  exact ⟨_, fd, glo_fn X G c.d (List.mem_of_getElem? (i := 25) rfl), F.kp, F.bindsN (fun _ _ _ _ _ _ us hl => match us, hl with | [_], _ => rfl), ok_law_made (top_of X G c) (def_unit_of X G c) F⟩
theorem def_law_rank (X : K.In h) (G : h.Ns mainGlobals mg) (c : SaysRT chk fn tabs w K) : Def P w K mg base "_law_rank" 1 ["_law_unit_here"] spLRank := by
  obtain ⟨fd, F⟩ := c.d.def_ 27 (d := d_law_rank) rfl
  exact ⟨_, fd, glo_fn X G c.d (List.mem_of_getElem? (i := 27) rfl), F.kp, F.bindsN (fun _ _ _ _ _ _ us hl => match us, hl with | [_], _ => rfl), ok_law_rank (top_of X G c) F⟩
theorem def_law_ordered (X : K.In h) (G : h.Ns mainGlobals mg) (c : SaysRT chk fn tabs w K) : Def P w K mg base "_law_ordered" 2 ["_law_units"] spLOrdered := by
  obtain ⟨fd, F⟩ := c.d.def_ 28 (d := d_law_ordered) rfl
  exact ⟨_, fd, glo_fn X G c.d (List.mem_of_getElem? (i := 28) rfl), F.kp, F.bindsN (fun _ _ _ _ _ _ us hl => match us, hl with | [_], _ => rfl), ok_law_ordered (top_of X G c) (def_law_rank X G c) F⟩
theorem def_law_bent (X : K.In h) (G : h.Ns mainGlobals mg) (c : SaysRT chk fn tabs w K) : Def P w K mg base "_law_bent" 3 ["_law_pen_here", "_law_text_here"] spLBent := by
  obtain ⟨fd, F⟩ := c.d.def_ 29 (d := d_law_bent) rfl
  exact ⟨_, fd, glo_fn X G c.d (List.mem_of_getElem? (i := 29) rfl), F.kp, F.bindsN (fun _ _ _ _ _ _ us hl => match us, hl with | [_, _], _ => rfl), ok_law_bent (top_of X G c) (def_law_draw X G c) (def_law_pick X G c) F⟩
theorem def_law_is_unit (X : K.In h) (G : h.Ns mainGlobals mg) (c : SaysRT chk fn tabs w K) : Def P w K mg base "_law_is_unit" 2 ["_law_value"] spLIsUnit := by
  obtain ⟨fd, F⟩ := c.d.def_ 26 (d := d_law_is_unit) rfl
  exact ⟨_, fd, glo_fn X G c.d (List.mem_of_getElem? (i := 26) rfl), F.kp, F.bindsN (fun _ _ _ _ _ _ us hl => match us, hl with | [_], _ => rfl), ok_law_is_unit (top_of X G c) F⟩
theorem def_is_whole_text (X : K.In h) (G : h.Ns mainGlobals mg) (c : SaysRT chk fn tabs w K) : Def P w K mg base "is_whole_text" 1 ["word"] spWText := by
  obtain ⟨fd, F⟩ := c.d.def_ 2 (d := d_is_whole_text) rfl
  exact ⟨_, fd, glo_fn X G c.d (List.mem_of_getElem? (i := 2) rfl), F.kp, F.bindsN (fun _ _ _ _ _ _ us hl => match us, hl with | [_], _ => rfl), ok_is_whole_text (top_of X G c) F⟩
theorem def_whole_of (X : K.In h) (G : h.Ns mainGlobals mg) (c : SaysRT chk fn tabs w K) : Def P w K mg base "whole_of" 1 ["word"] spWholeOf := by
  obtain ⟨fd, F⟩ := c.d.def_ 3 (d := d_whole_of) rfl
  exact ⟨_, fd, glo_fn X G c.d (List.mem_of_getElem? (i := 3) rfl), F.kp, F.bindsN (fun _ _ _ _ _ _ us hl => match us, hl with | [_], _ => rfl), ok_whole_of (top_of X G c) F⟩
theorem def_is_unit (X : K.In h) (G : h.Ns mainGlobals mg) (c : SaysRT chk fn tabs w K) : Def P w K mg base "is_unit" 4 ["value"] (spUnit K) := by
  obtain ⟨fd, F⟩ := c.d.def_ 5 (d := d_is_unit) rfl
  exact ⟨_, fd, glo_fn X G c.d (List.mem_of_getElem? (i := 5) rfl), F.kp, F.bindsN (fun _ _ _ _ _ _ us hl => match us, hl with | [_], _ => rfl), ok_is_unit (top_of X G c) (def_is_whole_text X G c) (def_whole_of X G c) (def_is_number X G c) F⟩
theorem def_is_unitX (X : K.In h) (G : h.Ns mainGlobals mg) (c : SaysRT chk fn tabs w K) : DefX CX0 P w K mg base "is_unit" 4 ["value"] (spUnit K) := by
  obtain ⟨fd, F⟩ := c.d.def_ 5 (d := d_is_unit) rfl
  exact ⟨_, fd, glo_fn X G c.d (List.mem_of_getElem? (i := 5) rfl), F.kp, F.bindsN (fun _ _ _ _ _ _ us hl => match us, hl with | [_], _ => rfl), ok_is_unit (top_of X G c) (def_is_whole_text X G c) (def_whole_of X G c) (def_is_number X G c) F, fun p e s u => by cases e; exact bind_ofN F (fun _ _ _ _ _ _ => rfl) s⟩
theorem L_law_heard (X : K.In h) (G : h.Ns mainGlobals mg) (c : SaysRT chk fn tabs w K) : LamD K mg "_law_heard" "_law_ask" s_law_heard := by
  obtain ⟨fd, F⟩ := c.d.def_ 22 (d := d_law_heard) rfl
  exact lamD_of F (glo_fn X G c.d (List.mem_of_getElem? (i := 22) rfl)) (F.bindsN (fun _ _ _ _ _ _ us hl => match us, hl with | [_], _ => rfl))
theorem def_law_refused_right (X : K.In h) (G : h.Ns mainGlobals mg) (c : SaysRT chk fn tabs w K) (nd : (tf.map fun p => (He.cT K p).2).Nodup) (tb : ∀ p ∈ tf, LamX.TabB base mg (He.cT K p).1 (He.cT K p).2) : DefG P w K mg base "_law_refused_right" 7 ["_law_pen_here"] (spLRefused (TSK K)) := by
  obtain ⟨fd, F⟩ := c.d.def_ 30 (d := d_law_refused_right) rfl
  exact ⟨_, fd, glo_fn X G c.d (List.mem_of_getElem? (i := 30) rfl), F.kp, F.bindsN (fun _ _ _ _ _ _ us hl => match us, hl with | [_], _ => rfl), ok_law_refused_right (top_of X G c) (no_field c 0 rfl "value" (by simp)) (no_field c 1 rfl "value" (by simp)) (def_law_pick X G c) (def_unit_of X G c) (L_law_heard X G c) (tb _ (by simp [tf])) (by simp [TSK]) (fun p hp e => (tsk_q nd p hp).1 e) F⟩
theorem def_unit_parts (X : K.In h) (G : h.Ns mainGlobals mg) (c : SaysRT chk fn tabs w K) : DefX (L2.CX P w) P w K mg base "unit_parts" 5 ["unit"] (spParts K) := by
  obtain ⟨fd, F⟩ := c.d.def_ 8 (d := d_unit_parts) rfl
  exact ⟨_, fd, glo_fn X G c.d (List.mem_of_getElem? (i := 8) rfl), F.kp, F.bindsN (fun _ _ _ _ _ _ us hl => match us, hl with | [_], _ => rfl), ok_unit_parts (top_of X G c) (R_BadUnit X G c) (def_is_unit X G c) F, fun p e s u => by cases e; exact bind_ofN F (fun _ _ _ _ _ _ => rfl) s⟩
theorem def_rank (X : K.In h) (G : h.Ns mainGlobals mg) (c : SaysRT chk fn tabs w K) : Def P w K mg base "rank" 2 ["word", "numbers"] (spRank K) := by
  obtain ⟨fd, F⟩ := c.d.def_ 9 (d := d_rank) rfl
  exact ⟨_, fd, glo_fn X G c.d (List.mem_of_getElem? (i := 9) rfl), F.kp, F.bindsN (fun _ _ _ _ _ _ us hl => match us, hl with | [_, _], _ => rfl), ok_rank (top_of X G c) F⟩
theorem def_rank_of (X : K.In h) (G : h.Ns mainGlobals mg) (c : SaysRT chk fn tabs w K) : Def P w K mg base "rank_of" 6 ["unit"] (spRankOf K) := by
  obtain ⟨fd, F⟩ := c.d.def_ 10 (d := d_rank_of) rfl
  exact ⟨_, fd, glo_fn X G c.d (List.mem_of_getElem? (i := 10) rfl), F.kp, F.bindsN (fun _ _ _ _ _ _ us hl => match us, hl with | [_], _ => rfl), ok_rank_of (def_unit_parts X G c) (def_rank X G c) F⟩
theorem def_in_order (X : K.In h) (G : h.Ns mainGlobals mg) (c : SaysRT chk fn tabs w K) : DefX (L2.CX P w) P w K mg base "in_order" 7 ["units"] (spInOrder K) := by
  obtain ⟨fd, F⟩ := c.d.def_ 11 (d := d_in_order) rfl
  exact ⟨_, fd, glo_fn X G c.d (List.mem_of_getElem? (i := 11) rfl), F.kp, F.bindsN (fun _ _ _ _ _ _ us hl => match us, hl with | [_], _ => rfl), ok_in_order (top_of X G c) (R_BadUnit X G c) (def_is_unit X G c) (def_rank_of X G c) F, fun p e s u => by cases e; exact bind_ofN F (fun _ _ _ _ _ _ => rfl) s⟩
theorem def_units_text (X : K.In h) (G : h.Ns mainGlobals mg) (c : SaysRT chk fn tabs w K) : DefX (L2.CX P w) P w K mg base "units_text" 8 ["units"] (spUnitsText K) := by
  obtain ⟨fd, F⟩ := c.d.def_ 12 (d := d_units_text) rfl
  exact ⟨_, fd, glo_fn X G c.d (List.mem_of_getElem? (i := 12) rfl), F.kp, F.bindsN (fun _ _ _ _ _ _ us hl => match us, hl with | [_], _ => rfl), ok_units_text (def_in_order X G c) F, fun p e s u => by cases e; exact bind_ofN F (fun _ _ _ _ _ _ => rfl) s⟩
theorem def_law_units_right (X : K.In h) (G : h.Ns mainGlobals mg) (c : SaysRT chk fn tabs w K) (nd : (tf.map fun p => (He.cT K p).2).Nodup) (tb : ∀ p ∈ tf, LamX.TabB base mg (He.cT K p).1 (He.cT K p).2) : DefG P w K mg base "_law_units_right" 11 ["_law_pen_here"] (spLUnits (TSK K)) := by
  obtain ⟨fd, F⟩ := c.d.def_ 31 (d := d_law_units_right) rfl
  exact ⟨_, fd, glo_fn X G c.d (List.mem_of_getElem? (i := 31) rfl), F.kp, F.bindsN (fun _ _ _ _ _ _ us hl => match us, hl with | [_], _ => rfl), ok_law_units_right (top_of X G c) (no_field c 0 rfl "value" (by simp)) (no_field c 1 rfl "value" (by simp)) (def_law_pick X G c) (def_law_draw X G c) (def_law_unit X G c) (def_law_text X G c) (def_law_made X G c) (def_law_ordered X G c) (def_law_bent X G c) (def_law_is_unit X G c) (def_is_unit X G c) (def_is_unitX X G c) (def_law_refused_right X G c nd tb) (def_unit_of X G c) (def_unit_parts X G c) (def_in_order X G c) (def_units_text X G c) (L_law_heard X G c) (tb _ (by simp [tf])) (by simp [TSK]) (fun p hp e => (tsk_q nd p hp).2.1 e) F⟩
theorem def_law_row_units (X : K.In h) (G : h.Ns mainGlobals mg) (c : SaysRT chk fn tabs w K) : Def P w K mg base "_law_row_units" 3 ["_law_pen_here"] spLRowUnits := by
  obtain ⟨fd, F⟩ := c.d.def_ 33 (d := d_law_row_units) rfl
  exact ⟨_, fd, glo_fn X G c.d (List.mem_of_getElem? (i := 33) rfl), F.kp, F.bindsN (fun _ _ _ _ _ _ us hl => match us, hl with | [_], _ => rfl), ok_law_row_units (top_of X G c) (def_law_draw X G c) (def_law_pick X G c) F⟩
theorem def_law_row_bent (X : K.In h) (G : h.Ns mainGlobals mg) (c : SaysRT chk fn tabs w K) : Def P w K mg base "_law_row_bent" 3 ["_law_pen_here", "_law_words"] spLRowBent := by
  obtain ⟨fd, F⟩ := c.d.def_ 36 (d := d_law_row_bent) rfl
  exact ⟨_, fd, glo_fn X G c.d (List.mem_of_getElem? (i := 36) rfl), F.kp, F.bindsN (fun _ _ _ _ _ _ us hl => match us, hl with | [_, _], _ => rfl), ok_law_row_bent (top_of X G c) (def_law_draw X G c) (def_law_pick X G c) F⟩
theorem def_law_is_number (X : K.In h) (G : h.Ns mainGlobals mg) (c : SaysRT chk fn tabs w K) : Def P w K mg base "_law_is_number" 1 ["_law_word", "_law_low"] spLIsNum := by
  obtain ⟨fd, F⟩ := c.d.def_ 34 (d := d_law_is_number) rfl
  exact ⟨_, fd, glo_fn X G c.d (List.mem_of_getElem? (i := 34) rfl), F.kp, F.bindsN (fun _ _ _ _ _ _ us hl => match us, hl with | [_, _], _ => rfl), ok_law_is_number (top_of X G c) F⟩
theorem def_law_wrong (X : K.In h) (G : h.Ns mainGlobals mg) (c : SaysRT chk fn tabs w K) : Def P w K mg base "_law_wrong" 2 ["_law_words"] spLWrong := by
  obtain ⟨fd, F⟩ := c.d.def_ 35 (d := d_law_wrong) rfl
  exact ⟨_, fd, glo_fn X G c.d (List.mem_of_getElem? (i := 35) rfl), F.kp, F.bindsN (fun _ _ _ _ _ _ us hl => match us, hl with | [_], _ => rfl), ok_law_wrong (top_of X G c) (def_law_is_number X G c) F⟩
theorem R_BadText (X : K.In h) (G : h.Ns mainGlobals mg) (c : SaysRT chk fn tabs w K) : RzX P w K mg base "BadText" (ca K 4) ["line", "word"] := rz_BadText (top_of X G c) c
theorem C_Words (X : K.In h) (G : h.Ns mainGlobals mg) (c : SaysRT chk fn tabs w K) : MakeX CX0 P w K mg base "Words" (cW K) 1 ["self", "words", "at", "line"] [] (spWInit K) := by
  obtain ⟨fd, F⟩ := c.d.def_ 43 (d := d_Words_init) rfl
  exact ⟨_, fd, _, (top_of X G c).m_Words, (top_of X G c).g_Words, F.bindsN (fun _ _ _ _ _ _ us hl => match us, hl with | [_, _, _, _], _ => rfl), .nil, ok_w_init (top_of X G c) F⟩
theorem def_words_of (X : K.In h) (G : h.Ns mainGlobals mg) (c : SaysRT chk fn tabs w K) : DefXD (L2.CX P w) P w K mg base "words_of" 4 ["text", "line"] [.int 0] (spWordsOf K) := by
  obtain ⟨fd, F⟩ := c.d.def_ 4 (d := d_words_of) rfl
  obtain ⟨ds, vd, bd⟩ := FunD.binds1 (ps := ["text", "line"]) F 1 0 (by simp [d_words_of, He.DefD.dvs]) rfl (fun T kV doc pm an cdv ct us its hu hi => by
    match us, its, hu, hi with
    | [u], [i], _, _ => exact ⟨_, rfl, rfl⟩)
  exact ⟨_, fd, ds, glo_fn X G c.d (List.mem_of_getElem? (i := 4) rfl), F.kp, bd, vd, ok_words_of (top_of X G c) (R_BadText X G c) (C_Words X G c) F⟩
theorem def_can_stand (X : K.In h) (G : h.Ns mainGlobals mg) (c : SaysRT chk fn tabs w K) : Def P w K mg base "can_stand" 4 ["word", "numbers", "after", "taken"] (spCanStand K) := by
  obtain ⟨fd, F⟩ := c.d.def_ 17 (d := d_can_stand) rfl
  exact ⟨_, fd, glo_fn X G c.d (List.mem_of_getElem? (i := 17) rfl), F.kp, F.bindsN (fun _ _ _ _ _ _ us hl => match us, hl with | [_, _, _, _], _ => rfl), ok_can_stand (top_of X G c) (def_is_number X G c) (def_rank X G c) (def_text_of X G c) F⟩
theorem M_peek (X : K.In h) (G : h.Ns mainGlobals mg) (c : SaysRT chk fn tabs w K) : MethX CX0 P w K mg base (cW K) "peek" 1 ["self"] (spPeek K) := by
  obtain ⟨fd, F⟩ := c.d.def_ 45 (d := d_Words_peek) rfl
  exact ⟨_, fd, (top_of X G c).m_Words_peek, F.bindsN (fun _ _ _ _ _ _ us hl => match us, hl with | [_], _ => rfl), ok_w_peek (top_of X G c) F⟩
theorem M_refuse (X : K.In h) (G : h.Ns mainGlobals mg) (c : SaysRT chk fn tabs w K) : MethX (L2.CX P w) P w K mg base (cW K) "refuse" 3 ["self"] (spRefuse K) := by
  obtain ⟨fd, F⟩ := c.d.def_ 44 (d := d_Words_refuse) rfl
  exact ⟨_, fd, (top_of X G c).m_Words_refuse, F.bindsN (fun _ _ _ _ _ _ us hl => match us, hl with | [_], _ => rfl), ok_w_refuse (top_of X G c) (R_BadText X G c) F⟩
theorem M_is_at_whole (X : K.In h) (G : h.Ns mainGlobals mg) (c : SaysRT chk fn tabs w K) : MethX CX0 P w K mg base (cW K) "is_at_whole" 3 ["self"] (spIsAtWhole K) := by
  obtain ⟨fd, F⟩ := c.d.def_ 49 (d := d_Words_is_at_whole) rfl
  exact ⟨_, fd, (top_of X G c).m_Words_is_at_whole, F.bindsN (fun _ _ _ _ _ _ us hl => match us, hl with | [_], _ => rfl), ok_w_is_at_whole (top_of X G c) (def_is_whole_text X G c) (M_peek X G c) F⟩
theorem M_behind (X : K.In h) (G : h.Ns mainGlobals mg) (c : SaysRT chk fn tabs w K) : MethX (L2.CX P w) P w K mg base (cW K) "behind" 4 ["self"] (spBehind K) := by
  obtain ⟨fd, F⟩ := c.d.def_ 46 (d := d_Words_behind) rfl
  exact ⟨_, fd, (top_of X G c).m_Words_behind, F.bindsN (fun _ _ _ _ _ _ us hl => match us, hl with | [_], _ => rfl), ok_w_behind (top_of X G c) (M_peek X G c) (M_refuse X G c) (C_Words X G c) F⟩
theorem M_behind_one (X : K.In h) (G : h.Ns mainGlobals mg) (c : SaysRT chk fn tabs w K) : MethX (L2.CX P w) P w K mg base (cW K) "behind_one" 5 ["self", "choices"] (spBehindOne K) := by
  obtain ⟨fd, F⟩ := c.d.def_ 47 (d := d_Words_behind_one) rfl
  exact ⟨_, fd, (top_of X G c).m_Words_behind_one, F.bindsN (fun _ _ _ _ _ _ us hl => match us, hl with | [_, _], _ => rfl), ok_w_behind_one (top_of X G c) (M_peek X G c) (M_refuse X G c) (M_behind X G c) F⟩
theorem M_take_one (X : K.In h) (G : h.Ns mainGlobals mg) (c : SaysRT chk fn tabs w K) : MethX (L2.CX P w) P w K mg base (cW K) "take_one" 6 ["self", "choices"] (spTakeOne K) := by
  obtain ⟨fd, F⟩ := c.d.def_ 48 (d := d_Words_take_one) rfl
  exact ⟨_, fd, (top_of X G c).m_Words_take_one, F.bindsN (fun _ _ _ _ _ _ us hl => match us, hl with | [_, _], _ => rfl), ok_w_take_one (top_of X G c) (M_peek X G c) (M_behind_one X G c) F⟩
theorem M_take_whole (X : K.In h) (G : h.Ns mainGlobals mg) (c : SaysRT chk fn tabs w K) : MethX (L2.CX P w) P w K mg base (cW K) "take_whole" 5 ["self"] (spTakeWhole K) := by
  obtain ⟨fd, F⟩ := c.d.def_ 50 (d := d_Words_take_whole) rfl
  exact ⟨_, fd, (top_of X G c).m_Words_take_whole, F.bindsN (fun _ _ _ _ _ _ us hl => match us, hl with | [_], _ => rfl), ok_w_take_whole (top_of X G c) (def_whole_of X G c) (M_is_at_whole X G c) (M_peek X G c) (M_refuse X G c) (M_behind X G c) F⟩
theorem def_take_unit (X : K.In h) (G : h.Ns mainGlobals mg) (c : SaysRT chk fn tabs w K) : DefX (L2.CX P w) P w K mg base "take_unit" 7 ["words", "after", "taken"] (spTakeUnit K) := by
  obtain ⟨fd, F⟩ := c.d.def_ 16 (d := d_take_unit) rfl
  exact ⟨_, fd, glo_fn X G c.d (List.mem_of_getElem? (i := 16) rfl), F.kp, F.bindsN (fun _ _ _ _ _ _ us hl => match us, hl with | [_, _, _], _ => rfl), ok_take_unit (top_of X G c) (def_can_stand X G c) (def_whole_of X G c) (def_text_of X G c) (M_peek X G c) (M_refuse X G c) (M_is_at_whole X G c) (M_take_one X G c) (M_take_whole X G c) F, fun p e => by cases e⟩
theorem def_take_some_units (X : K.In h) (G : h.Ns mainGlobals mg) (c : SaysRT chk fn tabs w K) : DefX (L2.CX P w) P w K mg base "take_some_units" 8 ["words", "taken"] (spTakeSome K) := by
  obtain ⟨fd, F⟩ := c.d.def_ 15 (d := d_take_some_units) rfl
  exact ⟨_, fd, glo_fn X G c.d (List.mem_of_getElem? (i := 15) rfl), F.kp, F.bindsN (fun _ _ _ _ _ _ us hl => match us, hl with | [_, _], _ => rfl), ok_take_some_units (top_of X G c) (def_take_unit X G c) (def_rank_of X G c) (M_peek X G c) (M_behind X G c) F, fun p e => by cases e⟩
theorem def_take_units (X : K.In h) (G : h.Ns mainGlobals mg) (c : SaysRT chk fn tabs w K) : DefX (L2.CX P w) P w K mg base "take_units" 9 ["words"] (spTakeUnits K) := by
  obtain ⟨fd, F⟩ := c.d.def_ 14 (d := d_take_units) rfl
  exact ⟨_, fd, glo_fn X G c.d (List.mem_of_getElem? (i := 14) rfl), F.kp, F.bindsN (fun _ _ _ _ _ _ us hl => match us, hl with | [_], _ => rfl), ok_take_units (top_of X G c) (def_take_some_units X G c) (M_peek X G c) (M_behind X G c) F, fun p e s u => by cases e; exact bind_ofN F (fun _ _ _ _ _ _ => rfl) s⟩
theorem M_end (X : K.In h) (G : h.Ns mainGlobals mg) (c : SaysRT chk fn tabs w K) : MethX (L2.CX P w) P w K mg base (cW K) "end" 4 ["self"] (spEnd K) := by
  obtain ⟨fd, F⟩ := c.d.def_ 51 (d := d_Words_end) rfl
  exact ⟨_, fd, (top_of X G c).m_Words_end, F.bindsN (fun _ _ _ _ _ _ us hl => match us, hl with | [_], _ => rfl), ok_w_end (top_of X G c) (M_refuse X G c) F⟩
theorem def_read_units (X : K.In h) (G : h.Ns mainGlobals mg) (c : SaysRT chk fn tabs w K) : DefX (L2.CX P w) P w K mg base "read_units" 10 ["text"] (spRead K) := by
  obtain ⟨fd, F⟩ := c.d.def_ 13 (d := d_read_units) rfl
  exact ⟨_, fd, glo_fn X G c.d (List.mem_of_getElem? (i := 13) rfl), F.kp, F.bindsN (fun _ _ _ _ _ _ us hl => match us, hl with | [_], _ => rfl), ok_read_units (top_of X G c) (def_words_of X G c) (def_take_units X G c) (M_end X G c) F, fun p e s u => by cases e; exact bind_ofN F (fun _ _ _ _ _ _ => rfl) s⟩
theorem L_law_read_heard (X : K.In h) (G : h.Ns mainGlobals mg) (c : SaysRT chk fn tabs w K) : LamD K mg "_law_read_heard" "_law_ask" s_law_read_heard := by
  obtain ⟨fd, F⟩ := c.d.def_ 32 (d := d_law_read_heard) rfl
  exact lamD_of F (glo_fn X G c.d (List.mem_of_getElem? (i := 32) rfl)) (F.bindsN (fun _ _ _ _ _ _ us hl => match us, hl with | [_], _ => rfl))
theorem def_law_row_right (X : K.In h) (G : h.Ns mainGlobals mg) (c : SaysRT chk fn tabs w K) (nd : (tf.map fun p => (He.cT K p).2).Nodup) (tb : ∀ p ∈ tf, LamX.TabB base mg (He.cT K p).1 (He.cT K p).2) : DefG P w K mg base "_law_row_right" 13 ["_law_words"] (spLRowRight (TSK K)) := by
  obtain ⟨fd, F⟩ := c.d.def_ 37 (d := d_law_row_right) rfl
  exact ⟨_, fd, glo_fn X G c.d (List.mem_of_getElem? (i := 37) rfl), F.kp, F.bindsN (fun _ _ _ _ _ _ us hl => match us, hl with | [_], _ => rfl), ok_law_row_right (top_of X G c) (no_field c 2 rfl "line" (by simp)) (no_field c 2 rfl "word" (by simp)) (def_law_wrong X G c) (def_read_units X G c) (def_units_text X G c) (L_law_read_heard X G c) (tb _ (by simp [tf])) (by simp [TSK]) (fun p hp e => (tsk_q nd p hp).2.2.1 e) F⟩
theorem def_law_texts_right (X : K.In h) (G : h.Ns mainGlobals mg) (c : SaysRT chk fn tabs w K) (nd : (tf.map fun p => (He.cT K p).2).Nodup) (tb : ∀ p ∈ tf, LamX.TabB base mg (He.cT K p).1 (He.cT K p).2) : DefG P w K mg base "_law_texts_right" 14 ["_law_pen_here"] (spLTexts (TSK K)) := by
  obtain ⟨fd, F⟩ := c.d.def_ 38 (d := d_law_texts_right) rfl
  exact ⟨_, fd, glo_fn X G c.d (List.mem_of_getElem? (i := 38) rfl), F.kp, F.bindsN (fun _ _ _ _ _ _ us hl => match us, hl with | [_], _ => rfl), ok_law_texts_right (top_of X G c) (no_field c 2 rfl "line" (by simp)) (no_field c 2 rfl "word" (by simp)) (def_law_pick X G c) (def_law_row_units X G c) (def_law_row_bent X G c) (def_law_row_right X G c nd tb) (def_law_wrong X G c) (def_read_units X G c) (def_units_text X G c) (L_law_read_heard X G c) (tb _ (by simp [tf])) (by simp [TSK]) (fun p hp e => (tsk_q nd p hp).2.2.2 e) F⟩
theorem facts (X : K.In h) (G : h.Ns mainGlobals mg) (hfa : mg ("law" : Str) = some (.ref f)) (c : SaysRT chk fn tabs w K) (nd : (tf.map fun p => (He.cT K p).2).Nodup) :
    ∃ fd : FuncData, (∀ (s : Shared) (v : Value), BindsTo s fd ⟨[v], []⟩ [("_law_script", v)]) ∧ ∀ base : Heap, K.In base → base.Ns mainGlobals mg → (∀ p ∈ tf, LamX.TabB base mg (He.cT K p).1 (He.cT K p).2) → FnG P w K mg base CX0 15 f fd ["_law_script"] (spLaw K (TSK K)) := by
  obtain ⟨fd, F⟩ := c.d.def_ 39 (d := d_law) rfl
  have e := hfa.symm.trans (glo_fn X G c.d (x := "law") (List.mem_of_getElem? (i := 39) rfl))
  cases e
  have b := FunD.bindsA (ps := ["_law_script"]) F fun _ _ _ _ _ _ us hl => match us, hl with | [_], _ => rfl
  exact ⟨fd, fun s v => b s [v] rfl, fun base _ _ tb => ok_law (top_of X G c) (def_law_pen X G c) (def_law_units_right X G c nd tb) (def_law_texts_right X G c nd tb) F⟩
end
end L2.K32
open PySem PySem.W PySem.Calls PyProof.Rows
theorem PySem.Challenge.cw_rowvault_k32_units_written_and_read_holds : PySem.Challenge.rw_rowvault_k32_units_written_and_read.Holds := by
  w_on; o_law
  refine HandSHeadRun.head_any (r := OpenLaw.row PySem.Challenge.rw_rowvault_k32_units_written_and_read) (q := view (OpenLaw.row PySem.Challenge.rw_rowvault_k32_units_written_and_read).prog [56]) (H := L2.K32.hkX) (ob := L2.K32.obX) (M := 9000) (loose := L2.K32.loose) (d := HandSHeadRun.topDef (OpenLaw.row PySem.Challenge.rw_rowvault_k32_units_written_and_read).prog 56) (kwd := []) L2.K32.obX_eq
    (by kernel_rfl) (fun s => by kernel_rfl) L2.K32.runX (by kernel_rfl) (by kernel_rfl) (by kernel_rfl) (by rfl) (by first | assumption | decide +kernel) (by decide +kernel) ⟨rfl, rfl, rfl, rfl, rfl, by decide +kernel⟩ ?hw ?hc
  case hw => w_witness2
  case hc =>
    refine L2.RV.walkTG (l := PySem.Challenge.rw_rowvault_k32_units_written_and_read) (n := 63) (k := 15) (x := "_law_script") (CX := fun _ => L2.CX0) rfl (by decide) (by kernel_rfl) ⟨rfl, by decide, by decide⟩ ?F (fun _ _ _ _ _ z => z)
    intro w mg fa h Y G hmg0
    obtain ⟨K, KX, c⟩ := Y
    have hmg : mg ("law" : PySem.Str) = some (.ref fa) := by
      have e : (HandSHeadRun.topDef (OpenLaw.row PySem.Challenge.rw_rowvault_k32_units_written_and_read).prog 56).name = ("law" : PySem.Str) := by kernel_rfl
      rw [← e]
      exact hmg0
    obtain ⟨m1, m2⟩ := L2.RV.ba2 c.more
    have nd := of_decide_eq_true m2
    have says := L2.RV.says_of (chk := L2.K32.chk) (ts := L2.K32.tabs) ⟨c.t, m1, c.hd, c.out, c.empty⟩
    obtain ⟨fd, hb, hF⟩ := L2.K32.facts (P := (PySem.Challenge.rw_rowvault_k32_units_written_and_read).prog) (w := w) KX G hmg says nd
    refine ⟨K, fd, L2.K32.tf.map (He.cT K), L2.K32.spLaw K (L2.K32.TSK K), KX, fun t ht => ?_, fun t ht => ?_, fun t ht => ?_, hb, fun H a ns hl hT hS => ⟨a, ns, rfl, hS, hl, ?_, fun _ => rfl⟩, fun base kb nb tb => hF base kb nb fun p hp => tb _ (List.mem_map_of_mem hp)⟩
    · obtain ⟨p, hp, rfl⟩ := List.mem_map.mp ht
      exact c.empty p hp
    · obtain ⟨p, hp, rfl⟩ := List.mem_map.mp ht
      exact c.out p hp
    · obtain ⟨p, hp, rfl⟩ := List.mem_map.mp ht
      exact PySem.W.codeHd_of_K KX (c.hd p hp)
    · intro p hp
      have z : ∃ d, d ∈ L2.K32.tf ∧ (He.cT K d).2 = p.1 := by
        simp only [L2.K32.TSK, List.mem_cons, List.not_mem_nil, or_false] at hp
        rcases hp with rfl | rfl | rfl | rfl
        all_goals exact ⟨_, by first | exact .head _ | exact .tail _ (.head _) | exact .tail _ (.tail _ (.head _)) | exact .tail _ (.tail _ (.tail _ (.head _))), rfl⟩
      obtain ⟨d, hd, e⟩ := z
      refine LamX.TabS.nil ?_
      rw [← e]
      exact hT _ (List.mem_map_of_mem hd)
