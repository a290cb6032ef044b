import PyProof.Rows.All
import Wide.All
import OpenK.AllK
import Wide.FinOn
import HandS.ForMost
import HandS.Exc
import HandS.ExcOwn
import HandS.ExcInit
import HandS.ExcIs
import HandS.Defaults
import HandS.Spec
import HandS.Ends
import HandS.HeadEnd
import HandS.ExcField
import HandS.MakeKwOnly
import KE.KStateDown
import HandS.Head0
import HandS.Head1
import HandS.Head2
import HandS.HeadHook1
import HandS.HeadHook2
import HandS.Dict
import HandS.ExcValue
import HandS.Star
import HandS.Lambda
import HandS.HeadHook4
import HandS.HeadHook3
import HandS.List
import HandS.EndBits
import KE.KNestM
import HandS.OwnEq
import HandS.IsInst
import KE.KCallOwn
import KE.KOpsOwn
import HandS.ClsMeth
import HandS.HeadNt
import HandS.Property
import HandS.Text
import HandS.StrMore
import HandS.MakeKw
import HandS.Iter
import HandS.Walk
import KE.GoesMore
import HandS.DictComp
import HandS.DictEq
import KE.KDictWalk
import HandS.Strs
import HandS.RaiseMore
import HandS.FStr
import HandS.Wide
import HandS.Gcd
import PyProof.Rows.RegStrFacts
import HandS.Style
import PyProof.Rows.StrPadWhole
import HandS.WideBits
import HandS.TupAny
import HandS.Small
import HandS.Conv
import PyProof.StrLawsChain
import HandS.Steps
import HandS.Deep
import PySem.Challenge.RW_rowvault_k19_texts_of_questions
set_option Elab.async false
set_option linter.all false
set_option maxRecDepth 100000
set_option maxHeartbeats 4000000
/-! Defs that are only called where no guard of a repr is under way: the promise, the rule by the body, the call. -/
namespace L2.RV
open PySem PySem.Spec PyProof.Rows
structure FnG (P : Program) (w : World) (K : PySem.W.Frag) (mg : Str → Option Value) (base : Heap) (CX : CXT) (k : Nat) (f : Addr) (fd : FuncData) (ps : List Str) (sp : Sp) : Prop where
  many : ∀ vs H Q E, sp vs H Q E → vs.length = ps.length
  go : ∀ (A : Around) (outer : List Env) (s : Shared) (H : Hp) (args : Args) (us : List Value) (vs : List V) (Q : VK) (E : XK), A.guards = some [] → Room k A → Env0 P w K mg base A outer s H →
    BindsTo s fd args (ps.zip us) → Vals vs us → sp vs H Q E → codeAny (model P w) A (.call (.ref f) args) (CR CX outer P w H s Q E) s
section
variable {P : Program} {w : World} {K : PySem.W.Frag} {mg : Str → Option Value} {base : Heap} {CX : CXT} {k : Nat} {f : Addr} {fd : FuncData} {ps : List Str} {sp : Sp}
theorem FnG.of (F : FnOk P w K mg base CX k f fd ps sp) : FnG P w K mg base CX k f fd ps sp :=
  ⟨F.len, fun A o s H args us vs Q E _ hr => F.run A o s H args us vs Q E hr⟩
theorem fnG_of {name qual : Str} {params : Arguments} {body : List Stmt} {scope : Scope} {dV kV doc pm cdv ct oc : Value} {an od : Option Addr} {osl : Array (Option Value)} {N : List Str}
    (lk : K.lookup f = some ⟨oc, od, .func (PySem.W.fnOf name qual params body scope dV kV doc pm an cdv ct), osl⟩) (hc : PySem.W.codeIn K cdv qual = true) (S : FnScope N ps scope)
    (many : ∀ vs H Q E, sp vs H Q E → vs.length = ps.length)
    (hb : ∀ (A : Around) (outer : List Env) (s : Shared) (H : Hp) (vs : List V) (Q : VK) (E : XK), A.guards = some [] → Room k (A.deeper (envOfC qual scope s.heap.objs.size f cdv)) → sp vs H Q E →
      ∃ t, PSs (cxOf CX P w K mg base N qual scope f cdv A outer s H E) body t ∧ t { nx := fun _ H' => Q .non H', rt := Q } (start N vs) H) :
    FnG P w K mg base CX (k + 1) f (PySem.W.fnOf name qual params body scope dV kV doc pm an cdv ct) ps sp := by
  constructor
  · exact many
  intro A outer s H args us vs Q E hg room en bnd rel hsp
  have kept : ∀ b o, base.get? b = some o → s.heap.get? b = some o := fun b o e => (en.bs b o e).1
  have inK : K.In s.heap := en.mod.kin.keeps kept
  have loc : ∀ y ∈ ps.zip us, scope.names.lookup y.1 = some .local ∨ (scope.names.lookup y.1 = some .cell ∧ ((cellsFrom (s.heap.objs.size + 1) scope.names []).lookup y.1).isSome = true) := by
    rintro ⟨n, v⟩ hy
    cases S.par n (List.of_mem_zip hy).1 with
    | inl q => exact Or.inl q
    | inr q => exact Or.inr ⟨q, PySem.W.cellsFrom_some _ _ _ (.inl q)⟩
  apply codeAny_call_function (fd := PySem.W.fnOf name qual params body scope dV kV doc pm an cdv ct) room.depth (inK _ _ lk) rfl S.co S.gen rfl (PySem.W.codeRec_of inK hc)
  apply bnd
  apply wpAny_newFunctionEnv_cells S.kind loc
  intro env he s1 x
  subst he
  refine ⟨(en.mod.nolimit.keeps kept).keeps x.toInCall.keep, ?_⟩
  apply codeAny_func
  obtain ⟨t, ht, hq⟩ := hb A outer s H vs Q E hg (room.deeper _) hsp
  have J : Inv (cxOf CX P w K mg base N qual scope f cdv A outer s H E) [] (start N vs) H s1 := inv_start S room.hd en (many _ _ _ _ hsp) rel x
  refine wpAny_mono (ht.run [] s1 (start N vs) H _ J hq) ?_ fun e s' hs => hs
  intro fl s' hs
  cases fl with
  | ret u =>
    obtain ⟨v, σ', H', J', rv, q⟩ := hs
    exact ⟨v, H', J'.os, J'.bare, J'.base, J'.hok, rv, q⟩
  | next =>
    obtain ⟨σ', H', J', q⟩ := hs
    exact ⟨.non, H', J'.os, J'.bare, J'.base, J'.hok, rfl, q⟩
  | brk =>
    obtain ⟨_, _, _, q⟩ := hs
    exact q.elim
  | cont =>
    obtain ⟨_, _, _, q⟩ := hs
    exact q.elim
end
section
variable {P : Program} {w : World} {K : PySem.W.Frag} {mg : Str → Option Value} {base : Heap} {x qual : Str} {params : Arguments} {body : List Stmt} {scope : Scope} {dvs : List V} {kws : List (Str × V)} {f : Addr} {fd : FuncData}
theorem okG {CX : CXT} {N ps : List Str} {k : Nat} {sp : Sp} (F : FunD K x qual params body scope dvs kws f fd) (S : FnScope N ps scope) (many : ∀ vs H Q E, sp vs H Q E → vs.length = ps.length)
    (hb : ∀ (cdv : Value) (A : Around) (outer : List Env) (s : Shared) (H : Hp) (vs : List V) (Q : VK) (E : XK), A.guards = some [] → Room k (A.deeper (envOfC qual scope s.heap.objs.size f cdv)) → sp vs H Q E →
      ∃ t, PSs (cxOf CX P w K mg base N qual scope f cdv A outer s H E) body t ∧ t { nx := fun _ H' => Q .non H', rt := Q } (start N vs) H) : FnG P w K mg base CX (k + 1) f fd ps sp := by
  obtain ⟨oc, od, dV, kV, doc, pm, an, cdv, ct, osl, rfl, lk, hcd, _, _⟩ := F.ex
  exact fnG_of lk hcd S many fun A outer s H vs Q E hg hr hsp => hb cdv A outer s H vs Q E hg hr hsp
end
section
variable {X : Cx} {CX : CXT} {k : Nat} {f : Addr} {fd : FuncData} {ps : List Str} {sp : Sp} {dvs : List V} {ds : List Value} {E : XK} {x : Str} {p pos : Pos} {e : Expr} {es : List Expr} {t : TA}
/-- a guarded def is called from a body that stands so too -/
theorem goG {pins : List (Addr × Obj)} {σ : St} {H : Hp} {s : Shared} {Q : VK} {us : List Value} {vs : List V} (F : FnG X.prog X.w X.K X.mg X.base CX k f fd ps sp) (hg : X.A.guards = some []) (hr : Room k X.A) (hb : Binds X.K fd ps ds) (hd : Vals dvs ds)
    (hx : Passes CX X E) (I : Inv X pins σ H s) (r : Vals vs us) (h : sp (vs ++ dvs) H Q E) : wpAny (model X.prog X.w) X.A (call (.ref f) us) (EP X pins σ Q) X.xe s := by
  have both : Vals (vs ++ dvs) (us ++ ds) := r.append hd
  have len : (us ++ ds).length = ps.length := both.length.symm.trans (F.many _ _ _ _ h)
  apply wpAny_call
  refine codeAny_mono (F.go X.A X.stack s H ⟨us, []⟩ (us ++ ds) (vs ++ dvs) Q E hg hr I.env0 (hb s us I.kIn len) both h) ?_
  intro r s' hq
  match r, hq with
  | .error e, hq => exact hx pins σ H s e s' I hq
  | .ok (.ret u), hq => exact I.after hq
  | .ok .next, hq => exact hq.elim
  | .ok .brk, hq => exact hq.elim
  | .ok .cont, hq => exact hq.elim
theorem pe_callG (F : FnG X.prog X.w X.K X.mg X.base CX k f fd ps sp) (hgu : X.A.guards = some []) (hr : Room k X.A) (hg : Gl X x) (hm : X.mg x = some (.ref f)) (hk : PySem.W.keepIn X.K (.ref f) = true) (hb : Binds X.K fd ps ds) (hd : Vals dvs ds) (hx : Passes CX X E)
    (ha : PA X (e :: es) t) (hdb : (x == ("__debug__" : Str)) = false := by decide) (he : starEach (e :: es) X.env = (false, eval e X.env) :: starEach es X.env := by rfl) (hpl : (backTo pos (starEach es X.env)).any (·.1) = false := by rfl) :
    PE X (.Call (.Name x p) (e :: es) [] pos) (tCall sp dvs E t) := by
  constructor
  intro pins s σ H Q I h
  apply wpAny_Call_Name_kw
  refine ld_glob I hg hm ?_ hdb
  refine PySem.W.callWith_K (h₀ := X.base) I.ok.mod.kin hk ?_ he hpl
  refine thn (ha.run pos pins s σ H _ I h) ?_
  rintro us s1 ⟨vs, H1, I1, r, q⟩
  exact ⟨I1.kIn, goG F hgu hr hb hd hx I1 r q⟩
end
end L2.RV
set_option Elab.async false
set_option linter.all false
set_option maxRecDepth 100000
set_option maxHeartbeats 4000000
/-! The end of a law's proof where its def is guarded. -/
namespace L2.RV
open PySem PySem.Spec PyProof.Rows
abbrev listObj (vs : List Value) : Obj := { cls := .type "list", data := .seq vs.toArray }
theorem lawG {P : Program} {w : World} {K : PySem.W.Frag} {mg mb : Str → Option Value} {CX : CXT} {k : Nat} {fa a : Addr} {fd : FuncData} {x : Str} {sp : Sp} {s : Shared} {vs : List Value} {ns : List Int}
    (KX : K.In s.heap) (G : s.heap.Ns mainGlobals mg) (B : s.heap.Ns builtinsNs mb) (hB : ∀ x : Str, x ≠ "__name__" → mb x = bootBuiltins x) (lim : s.heap.NoLimit) (gens : s.gens = #[])
    (at_ : s.heap.get? a = some (listObj vs)) (areI : IntsAre vs ns) (few : ns.length ≤ sizeLine) (room : Room k callerA)
    (F : ∀ base : Heap, K.In base → base.Ns mainGlobals mg → FnG P w K mg base CX k fa fd [x] sp) (bind : ∀ (s : Shared) (u : Value), BindsTo s fd ⟨[u], []⟩ [(x, u)])
    (hsp : ∀ H : Hp, SqL K H a (ns.map V.int) → sp [.ref a] H (fun v _ => v = .bl true) fun _ _ _ => False)
    (no : ∀ H e s', CX [] H s (fun _ _ _ => False) e s' → False) :
    codeAny (model P w) callerA (.call (.ref fa) ⟨[.ref a], []⟩) (fun r s' => r = .ok (.ret (.bool true)) ∧ OldK s.heap s'.heap ∧ s'.os = s.os ∧ AllBare s'.gens) s := by
  have vals : Vals (ns.map V.int) vs := vals_ints areI
  have short : (ns.map V.int).length ≤ sizeLine := by rw [List.length_map]; exact few
  have size : vs.toArray.size ≤ sizeLine := by rw [List.size_toArray, areI.length]; exact few
  have main : ∀ H : Hp, (∀ b u, H b = some u → b = a ∧ u = .frz (listObj vs) (.lst (ns.map V.int)) ∧ K.lookup a = none) → SqL K H a (ns.map V.int) →
      codeAny (model P w) callerA (.call (.ref fa) ⟨[.ref a], []⟩) (fun r s' => r = .ok (.ret (.bool true)) ∧ OldK s.heap s'.heap ∧ s'.os = s.os ∧ AllBare s'.gens) s := by
    intro H only seq
    have stands : HOk P w H s.heap := by
      intro b u e
      obtain ⟨rfl, rfl, _⟩ := only b u e
      exact ⟨at_, short, vs, _, vals, at_⟩
    have hidden : ∀ {b : Addr} {o : Obj}, s.heap.get? b = some o → (∀ u, H b = some u → False) → (hidT s.heap H).get? b = some o := by
      intro b o e n
      apply hidT_get e
      cases q : H b with
      | none => rfl
      | some u => exact (n u q).elim
    have spaces : ∀ {b : Addr} {m : Str → Option Value}, s.heap.Ns b m → (hidT s.heap H).Ns b m := by
      rintro b m ⟨o, es, ep, e, d, more⟩
      refine ⟨o, es, ep, hidden e fun u q => ?_, d, more⟩
      obtain ⟨rfl, _, _⟩ := only b u q
      rw [at_] at e
      cases e
      have d' : Data.seq vs.toArray _ = Data.dict es ep := d
      cases d'
    have inK : K.In (hidT s.heap H) := by
      intro b o e
      refine hidden (KX b o e) fun u q => ?_
      obtain ⟨rfl, _, z⟩ := only b u q
      rw [z] at e
      cases e
    have entry : Env0 P w K mg (hidT s.heap H) callerA [] s H := by
      refine ⟨rfl, ⟨inK, spaces G, ⟨mb, spaces B, hB⟩, ?_⟩, fun b o e => of_hidT e, Nat.le_of_eq (hidT_size _ _), trivial, fun b hb => ?_, stands, .of_eq gens⟩
      · obtain ⟨mc, h1, h2⟩ := lim
        exact ⟨mc, spaces h1, h2⟩
      · exact absurd (show b ∈ ([] : List Addr) from hb) (by simp)
    refine codeAny_mono ((F _ inK (spaces G)).go callerA [] s H ⟨[.ref a], []⟩ [.ref a] [.ref a] _ _ rfl room entry (bind s (.ref a)) (.cons rfl .nil) (hsp H seq)) ?_
    intro r s' h
    match r, h with
    | .error e, h => exact (no H e s' h).elim
    | .ok .next, h => exact h.elim
    | .ok .brk, h => exact h.elim
    | .ok .cont, h => exact h.elim
    | .ok (.ret u), h =>
      obtain ⟨v, H', os, bare, un, stands', rel, q⟩ := h
      have q' : v = .bl true := q
      subst q'
      obtain rfl : u = Value.bool true := rel
      refine ⟨rfl, OldK.of_keep fun b o e => ?_, os, bare⟩
      cases q : H b with
      | none => exact un.keep b o e q (fun z => absurd (show b ∈ ([] : List Addr) from z) (by simp)) (by simp)
      | some u =>
        obtain ⟨rfl, rfl, _⟩ := only b u q
        obtain ⟨e2, _⟩ := stands' b _ (un.frzs b _ _ q)
        rw [at_] at e
        cases e
        exact e2
  cases old : K.lookup a with
  | some o =>
    have e := KX a o old
    rw [at_] at e
    cases e
    refine main (fun _ => none) (fun b u z => ?_) (.inr ⟨_, vs.toArray, _, old, rfl, rfl, rfl, size, by simpa using vals⟩)
    have z' : (none : Option HO) = some u := z
    cases z'
  | none =>
    refine main (fun b => if b = a then some (.frz (listObj vs) (.lst (ns.map V.int))) else none) (fun b u z => ?_) (.inl (.inr ⟨listObj vs, if_pos rfl⟩))
    by_cases hb : b = a
    · have z' := (if_pos hb).symm.trans z
      cases z'
      exact ⟨hb, rfl, old⟩
    · have z' := (if_neg hb).symm.trans z
      cases z'
theorem walkG {l : PySem.W.OpenLaw} {n k : Nat} {q : Program} {loose : List Str} {XP : (Str → Option Value) → Heap → Prop} {YP : World → Heap → Prop} {d : DefRec} {CX : CXT} {x : Str}
    (hn : l.most = some n) (hn2 : n ≤ sizeLine) (hdf : d.params.defaults = []) (hr : Room k callerA)
    (F : ∀ (w : World) (mg : Str → Option Value) (fa : Addr) (h : Heap), YP w h → h.Ns mainGlobals mg → mg d.name = some (.ref fa) →
      ∃ (K : PySem.W.Frag) (fd : FuncData) (sp : Sp), K.In h ∧ (∀ (s : Shared) (u : Value), BindsTo s fd ⟨[u], []⟩ [(x, u)]) ∧
        (∀ (H : Hp) (a : Addr) (ns : List Int), ns.length ≤ n → SqL K H a (ns.map V.int) → sp [.ref a] H (fun v _ => v = .bl true) fun _ _ _ => False) ∧
        ∀ base : Heap, K.In base → base.Ns mainGlobals mg → FnG l.prog w K mg base CX k fa fd [x] sp)
    (no : ∀ (H : Hp) (s : Shared) (e : Value) (s' : Shared), CX [] H s (fun _ _ _ => False) e s' → False) :
    PySem.W.WalkO q loose XP YP l.row.toRowW d [] (fun f vs => PySem.call f vs) := by
  apply Att.attach_call hn hdf
  intro w s₀ s₁ mg mb fa o pm cd doc a vs ns G Y ho hd hcd hmg hobj hints hlen hg
  obtain ⟨K, fd, sp, KX, hb, hs, hF⟩ := F w mg fa _ Y G.T.g hmg
  exact lawG KX G.T.g G.T.b G.T.builtins G.T.nolimit hg hobj hints (Nat.le_trans hlen hn2) hr hF hb (fun H hS => hs H a ns hlen hS) fun H e s' => no H s₁ e s'
end L2.RV
set_option Elab.async false
set_option linter.all false
set_option maxRecDepth 100000
set_option maxHeartbeats 4000000
/-! An own exception class over ValueError called with keywords: at the library's level. -/
namespace PySem
namespace RVX
open PySem.HandSPX PySem.W PySem.Calls PyProof.Rows
section
variable {prog : Program} {w : World} {M : Model} {A : Around} {E : Value → Shared → Prop} {R : Result → Shared → Prop} {h : Heap} {g : Array GenState} {d : Drawn} {t : Nat} {os : OsState}
variable {nm q : Str} {C N : Addr} {bs bm bmB : List Value} {hdct : Bool} {sn : List Str} {sub : List Value} {ab : Bool} {col : Option Bool} {dd : Option Addr} {k0 k1 k2 k3 k5 : Option Value} {B newId initId : String}
  {us : List Value} {kw : List (Str × Value)}
theorem kwNewLook (F : ExcBaseFacts B newId initId bmB) (hT : ∀ X : String, bm.contains (.type X) = bmB.contains (.type X)) {Q : Unit → Shared → Prop}
    (hC : h.get? C = some (excClassObj nm q C N bs bm hdct sn sub ab col dd k0 k1 k2 k3 k5 newId)) (hq : Q () ⟨h, g, d, t, os⟩) : wpAny M A (checkBuiltinCall newId ⟨.ref C :: us, kw⟩) Q E ⟨h, g, d, t, os⟩ := by
  have hB : (Value.ref C :: bm).contains (.type B) = true := by rw [List.contains_cons, hT, F.hasB, Bool.or_true]
  have st := F.noStar
  simp only [checkBuiltinCall, F.newKind, F.newSplit, F.newRow]
  repeat (first
    | refine wpAny_loadPart_at hC ?_
    | (refine wpAny_isSubtype_exc hC ?_; rw [hB])
    | refine wpAny_staticBase_exc hC ?_
    | refine wpAny_madeBy_exc hC ?_
    | simp only [bne_self_eq_false, Bool.false_eq_true, if_false]
    | wp_step)
  exact hq
theorem kwTypeLook {Q : Unit → Shared → Prop} (hC : h.get? C = some (excClassObj nm q C N bs bm hdct sn sub ab col dd k0 k1 k2 k3 k5 newId)) (hq : Q () ⟨h, g, d, t, os⟩) :
    wpAny M A (checkBuiltinCall "type.__call__" ⟨.ref C :: us, kw⟩) Q E ⟨h, g, d, t, os⟩ := by
  have s := tc_sub
  have ty : (⟨h, g, d, t, os⟩ : Shared).TypeIs (.ref C) "type" := ⟨_, hC, rfl⟩
  simp only [checkBuiltinCall, tc_kind, tc_split]
  repeat (any_goals (first
    | assumption
    | with_reducible refine wpAny_loadPart_at hC ?_
    | with_reducible refine wpAny_onRaise ?_
    | with_reducible refine wpAny_map ?_
    | wp_step))
theorem kwNew (F : ExcBaseFacts B newId initId bmB) (hT : ∀ X : String, bm.contains (.type X) = bmB.contains (.type X)) (hC : h.get? C = some (excClassObj nm q C N bs bm hdct sn sub ab col dd k0 k1 k2 k3 k5 newId)) (few : us.length ≤ sizeLine)
    (hq : R (.ok (.ret (.ref (h.objs.size + 1)))) ⟨(h.push (W.kdv_tup us)).push (excO C h.objs.size), g, d, t, os⟩) : codeAny (model prog w) A (.builtin newId ⟨.ref C :: us, kw⟩) R ⟨h, g, d, t, os⟩ := by
  have ends := F.ends
  have inB : (Value.ref C :: bm).contains (.type B) = true := by rw [List.contains_cons, hT, F.hasB, Bool.or_true]
  have inA : (Value.ref C :: bm).contains (.type "AttributeError") = false := by rw [List.contains_cons, hT, F.noAttr]; rfl
  have inN : (Value.ref C :: bm).contains (.type "NameError") = false := by rw [List.contains_cons, hT, F.noName]; rfl
  apply codeAny_builtinAt F.entry
  unfold Builtin.«BaseException.__new__»
  apply wpAt_bind
  show wpAt _ _ _ (stack >>= _) _ _ _
  apply wpAt_bind
  apply wpAt_stack
  intro p below
  apply wpAt_of_wpAny
  wp_walk
  apply wpAt_of_wpAny
  rw [F.owner]
  repeat (first
    | with_reducible refine wpAny_madeHere_exc F.canon hC ?_
    | with_reducible refine wpAny_loadPart_at hC ?_
    | (with_reducible refine wpAny_isSubtype_exc hC ?_; first | rw [inB] | rw [inA] | rw [inN])
    | wp_step)
  show R _ _
  rw [Heap.size_push]
  exact hq
theorem kwTypeCall (F : ExcBaseFacts B newId initId bmB) (hT : ∀ X : String, bm.contains (.type X) = bmB.contains (.type X)) {fI : Addr} {Q : Fin → Shared → Prop} (hC : h.get? C = some (excClassObj nm q C N bs bm hdct sn sub ab col dd k0 k1 k2 k3 k5 newId))
    (hi : W.Looks (model prog w) h (typeLookup (.ref C) "__init__") (some (.ref fI))) (hb : ∀ self, W.Looks (model prog w) h (bindSpecial (.ref fI) self) (.ref fI, [self])) (few : us.length ≤ sizeLine)
    (hq : codeAny (model prog w) A (.call (.ref fI) ⟨.ref (h.objs.size + 1) :: us, kw⟩)
      (fun r s' => match r with | .ok (.ret v) => v = .none ∧ Q (.done (.ret (.ref (h.objs.size + 1)))) s' | .ok _ => False | .error e => E e s') ⟨(h.push (W.kdv_tup us)).push (excO C h.objs.size), g, d, t, os⟩) :
    wpAny (model prog w) A (Builtin.«type.__call__» ⟨.ref C :: us, kw⟩) Q E ⟨h, g, d, t, os⟩ := by
  repeat (first
    | with_reducible refine wpAny_loadPart_at hC ?_
    | with_reducible refine wpAny_madeBy_exc hC ?_
    | wp_step)
  apply codeAny_call_builtin_code (Code.quiet_builtin _ F.quiet)
  apply kwNewLook F hT hC
  apply kwNew F hT hC few
  show wpAny _ _ _ _ _ _
  have keep : ∀ b o, h.get? b = some o → ((h.push (W.kdv_tup us)).push (excO C h.objs.size)).get? b = some o := fun b o e => Heap.get?_push_of_some _ (Heap.get?_push_of_some _ e)
  have hC1 := keep _ _ hC
  have made : ((h.push (W.kdv_tup us)).push (excO C h.objs.size)).get? (h.objs.size + 1) = some (excO C h.objs.size) := by heap_get
  have own : (Value.ref C :: bm).contains (.ref C) = true := by simp
  have i1 := hi.keeps keep
  have b1 := (hb (.ref (h.objs.size + 1))).keeps keep
  unfold isInstance
  repeat (first
    | with_reducible refine wpAny_loadPart_at made ?_
    | (with_reducible refine wpAny_isSubtype_exc hC1 ?_; rw [own])
    | wp_step)
  show wpAny _ _ (typeLookup (.ref C) _) _ _ _
  apply i1.at
  apply wpAny_holding
  apply wpAny_bind
  apply b1.at
  apply wpAny_bind
  apply wpAny_call
  refine codeAny_mono hq ?_
  intro r s' z
  rcases r with e | (v | _ | _ | _) <;> first | exact z | exact z.elim | skip
  obtain ⟨rfl, z⟩ := z
  first
    | exact wpAny_pure (wpAny_pure z)
    | (wp_walk; exact z)
theorem kwCall (F : ExcBaseFacts B newId initId bmB) (hT : ∀ X : String, bm.contains (.type X) = bmB.contains (.type X)) {fI : Addr} (hC : h.get? C = some (excClassObj nm q C N bs bm hdct sn sub ab col dd k0 k1 k2 k3 k5 newId))
    (hi : W.Looks (model prog w) h (typeLookup (.ref C) "__init__") (some (.ref fI))) (hb : ∀ self, W.Looks (model prog w) h (bindSpecial (.ref fI) self) (.ref fI, [self])) (few : us.length ≤ sizeLine)
    (hq : codeAny (model prog w) (A.under (.builtin "type.__call__" ⟨.ref C :: us, kw⟩)) (.call (.ref fI) ⟨.ref (h.objs.size + 1) :: us, kw⟩) (W.InitBack (h.objs.size + 1) R) ⟨(h.push (W.kdv_tup us)).push (excO C h.objs.size), g, d, t, os⟩) :
    codeAny (model prog w) A (.call (.ref C) ⟨us, kw⟩) R ⟨h, g, d, t, os⟩ := by
  have l1 := tc_lookup
  have l2 := tc_bind (.ref C)
  have ty : (⟨h, g, d, t, os⟩ : Shared).TypeIs (.ref C) "type" := ⟨_, hC, rfl⟩
  apply codeAny_of_tree
  show wpAny _ _ (callAny (.ref C) _) _ _ _
  repeat (any_goals (first
    | assumption
    | with_reducible refine wpAny_loadPart_at hC ?_
    | wp_step))
  refine ⟨rfl, ?_⟩
  apply codeAny_call_builtin_at (Code.quiet_builtin _ (by decide +kernel)) entry_typeCall
  apply kwTypeLook hC
  apply kwTypeCall F hT hC hi hb few
  refine codeAny_mono hq ?_
  intro r s' z
  rcases r with e | (v | _ | _ | _) <;> exact z
end
end RVX
end PySem
set_option Elab.async false
set_option linter.all false
set_option maxRecDepth 100000
set_option maxHeartbeats 4000000
/-! Own exceptions as values: what the class must say, isinstance of one. -/
namespace PySem.W
open PySem PySem.Spec PySem.Calls PyProof.Rows
section
variable {prog : Program} {w : World} {A : Around} {E : Value → Shared → Prop} {s : Shared} {K : Frag} {x D : Addr} {ox : Obj} {od : Option Obj}
theorem rvClass {Q : Option Value → Shared → Prop} (ga : findIn K (.ref D) "__getattribute__" = some (some (.builtin "BaseException.__getattribute__"))) (gg : findIn K (.ref D) "__getattr__" = some none) (sb : subIn K (.ref D) (.type "BaseException") = some true)
    (hd : hasDictIn K D = true) (ca : findIn K (.ref D) "__class__" = some (some (.builtin "object.__class__")))
    (cg : specialIn K (.builtin "object.__class__") "__get__" = some (some (.builtin "getset_descriptor.__get__"))) (ct : takesIn K (.builtin "object.__class__") = some true) (mo : mroIn K D (.type "object") = some true)
    (X : K.In s.heap) (I : InstAt s.heap x ox D od) (h : Q (some (.ref D)) { s with toks := s.toks + 1 }) : wpAny (model prog w) A (getAttr? (.ref x) "__class__") Q E s := by
  have fd : findObj K D od "__class__" = some (.bind (.builtin "getset_descriptor.__get__") (.builtin "object.__class__")) := by
    obtain ⟨cd, hc, _⟩ := any_some hd
    unfold findObj
    rw [hc, Option.bind_some, ca, Option.bind_some]
    simp [cg, ct]
  obtain ⟨hp, g, d, t, os⟩ := s
  have ty := I.type (M := model prog w)
  have la := looks_findIn (M := model prog w) X ga
  have lg := looks_findIn (M := model prog w) X gg
  have lf := looks_find (M := model prog w) X I fd
  have sub : Looks (model prog w) hp (isInstance (.ref x) (.type "BaseException")) true := ty.andThen (looks_subIn X sb)
  have n0 : (false && onTheHeap (Value.builtin "BaseException.__getattribute__")) = false := rfl
  have n2 : (Value.builtin "BaseException.__getattribute__" == Value.builtin "object.__getattribute__") = false := by decide +kernel
  have n1 : (onTheHeap (Value.ref D) && Value.builtin "BaseException.__getattribute__" == Value.builtin "object.__getattribute__") = false := by rw [n2]; rfl
  unfold getAttr? getAttrBy? getAttrBy
  apply wpAny_bind
  apply wpAny_mkText
  apply wpAny_bind
  apply wpAny_attempt
  apply wpAny_holding
  apply wpAny_bind
  apply ty.at
  apply wpAny_bind
  apply la.at
  show wpAny _ _ (if (onTheHeap (Value.ref D) && Value.builtin "BaseException.__getattribute__" == Value.builtin "object.__getattribute__") = true then _ else _) _ _ _
  rw [n1, if_neg Bool.false_ne_true]
  unfold getAttrByItsOwn hookBefore
  apply wpAny_bind
  rw [if_pos (show onTheHeap (Value.ref D) = true from rfl)]
  apply lg.at
  apply wpAny_bind
  apply wpAny_attempt
  apply wpAny_holding
  unfold callGetattribute
  rw [n0, if_neg Bool.false_ne_true]
  unfold boundAndCalled
  rw [PySem.F.excAttr_ValueError.ga.bind (.ref x)]
  apply wpAny_bind
  apply wpAny_pure
  show wpAny _ _ (call (.builtin "BaseException.__getattribute__") [.ref x, .str "__class__" t]) _ _ _
  refine wpAny_call (codeAny_call_builtin PySem.F.excAttr_ValueError.ga.plain PySem.F.entry_bexc_ga ?_)
  refine @check_slot (model prog w) _ _ ⟨hp, g, d, t + 1, os⟩ "BaseException.__getattribute__" "BaseException" "__getattribute__" (.ref x) [.str "__class__" t] [] _ (by decide +kernel) (by decide +kernel) sub (PySem.F.args_bexc_ga (.ref x) (.str "__class__" t)) ?_
  unfold Builtin.«object.__getattribute__»
  refine wpAny_bind (wpAny_of_eq (a := ((Value.ref x : Value), [Value.str "__class__" t])) (by first | rfl | (simp only [slotArgs]; rfl)) ?_)
  apply wpAny_bind
  apply wpAny_pure
  apply wpAny_bind
  apply ty.at
  apply wpAny_bind
  apply lf.at
  show wpAny _ _ (holding [Value.builtin "object.__class__"] (call (.builtin "getset_descriptor.__get__") [.builtin "object.__class__", .ref x, .ref D]) >>= ret) _ _ _
  refine wpAny_bind (wpAny_holding (wpAny_call (class_get (s := ⟨hp, g, d, t + 1, os⟩) (ox := ox) (od := od) X I mo ?_)))
  apply wpAny_pure
  show wpAny _ _ (handedOut (.ref D)) _ _ _
  rw [handedOut_of (v := .ref D) rfl]
  first
    | exact wpAny_pure (wpAny_pure h)
    | exact wpAny_pure h
    | exact wpAny_pure (wpAny_bind (wpAny_pure (wpAny_pure h)))
end
end PySem.W
namespace L2.RV
open PySem PySem.Spec PyProof.Rows
theorem kitE {K : PySem.W.Frag} {x D : Addr} {ox : Obj} {od : Option Obj} (c : ExcC K D) : PySem.W.KitX K (.ref x) (.ref D) (fun h => PySem.W.InstAt h x ox D od) := by
  have isC : ∃ cd, PySem.W.clsIn K D = some cd := by
    obtain ⟨cd, hc, _⟩ := PySem.W.any_some c.hd
    exact ⟨cd, hc⟩
  refine ⟨fun _ _ _ I => I.type, fun M h X I => ?_, fun h tp dd its n sl X at_ => ?_, fun X I k => PySem.W.rvClass c.hg c.hk c.hs c.hd c.ha c.hn c.ht c.hm X I k⟩
  · obtain ⟨cd, hc⟩ := isC
    unfold PySem.W.clsIn at hc
    split at hc
    · rename_i ho
      intro A' Q' E' s' k q
      unfold isType loadHead
      exact wpAny_bind (wpAny_loadPart (k _ _ (X _ _ ho)) (wpAny_pure q))
    · cases hc
  · apply Bool.eq_false_iff.mpr
    intro q
    obtain rfl : D = tp := Value.ref.inj (beq_iff_eq.mp q)
    obtain ⟨cd, hc⟩ := isC
    unfold PySem.W.clsIn at hc
    split at hc
    · rename_i ho
      have z := (X _ _ ho).symm.trans at_
      cases z
    · cases hc
/-- an exception that is not raised stands at e: its class C, its fields fs (none: it has no dict) -/
def ErrAt (H : Hp) (e C : Addr) (fs : List (Str × V)) : Prop := (fs = [] ∧ H e = some (exo e C none)) ∨ ∃ d, H e = some (exo e C (some d)) ∧ H d = some (exd d fs)
theorem ErrAt.same {H H' : Hp} {e C : Addr} {fs : List (Str × V)} (x : ErrAt H e C fs) (s : Same H H') : ErrAt H' e C fs := by
  rcases x with ⟨n, x⟩ | ⟨d, x, y⟩
  · exact .inl ⟨n, s _ _ x⟩
  · exact .inr ⟨d, s _ _ x, s _ _ y⟩
section
variable {X : Cx} {pins : List (Addr × Obj)} {σ : L2.St} {H : Hp} {s : Shared} {e C : Addr} {fs : List (Str × V)}
theorem ErrAt.inst (x : ErrAt H e C fs) (I : Inv X pins σ H s) : ∃ ox od, PySem.W.InstAt s.heap e ox C od ∧ ∀ f, (od = none ∧ fs.lookup f = none) ∨ ∃ o r, od = some o ∧ PySem.W.lookIn f o = some r ∧ RelO (fs.lookup f) r := by
  rcases x with ⟨rfl, x⟩ | ⟨d, x, y⟩
  · obtain ⟨t1, ho⟩ := exo_at I.hok x
    exact ⟨_, none, ⟨ho, rfl, rfl, trivial⟩, fun f => .inl ⟨rfl, rfl⟩⟩
  · obtain ⟨t1, ho⟩ := exo_at I.hok x
    obtain ⟨mA, hns, rel⟩ := exd_at I.hok y
    have hns1 : s.heap.Ns1 d mA := hns
    obtain ⟨o, hd, hl⟩ := lookIn_ns hns1
    exact ⟨_, some o, ⟨ho, rfl, rfl, hd⟩, fun f => .inr ⟨o, _, rfl, hl f, rel f⟩⟩
end
/-- isinstance(e, c) of such an exception -/
def rIsX (K : PySem.W.Frag) : List V → Hp → VK → Prop := fun xs H Q => ∃ (e C : Addr) (fs : List (Str × V)) (c : V) (cv : Value) (b : Bool), xs = [.ref e, c] ∧ ErrAt H e C fs ∧ ExcC K C ∧ (∀ u, RelV c u → u = cv) ∧ PySem.W.kitOne K (.ref C) cv = some b ∧ Q (.bl b) H
theorem call_isX {X : Cx} : CallR X (.builtin "isinstance") (rIsX X.K) := by
  intro pins s σ H xs us Q I r h
  obtain ⟨e, C, fs, c, cv, b, rfl, at_, cl, hcv, k, q⟩ := h
  obtain ⟨u, u', rfl, ru, ru'⟩ := vals2 r
  cases ru
  obtain rfl := hcv _ ru'
  obtain ⟨ox, od, J, _⟩ := at_.inst I
  exact PySem.W.kia_one (kitE cl) I.kIn J k (fun z => nomatch z) fun tk => ⟨.bl b, H, I.kept (t' := tk) fun _ _ z => z, rfl, q⟩
/-- e.f of such an exception -/
def tXF (K : PySem.W.Frag) (f : Str) (te : TE) : TE := fun σ H Q => te σ H fun x H1 => ∃ (e C : Addr) (fs : List (Str × V)) (v : V), x = .ref e ∧ ErrAt H1 e C fs ∧ XfC K C ∧ PySem.W.findIn K (.ref C) f = some none ∧ fs.lookup f = some v ∧ Q v H1
theorem pe_xF {X : Cx} {e : Expr} {te : TE} {pos : Pos} {f : Str} (he : PE X e te) (hb : attributeBase e f X.env (eval e X.env) = eval e X.env := by rfl) : PE X (.Attribute e f pos) (tXF X.K f te) := by
  constructor
  intro pins s σ H Q I h
  apply attr_of hb
  refine thn (he.run pins s σ H _ I h) ?_
  rintro u s1 ⟨x, H1, I1, rx, e1, C, fs, v, rfl, at_, T, no, l, q⟩
  cases rx
  obtain ⟨ox, od, J, look⟩ := at_.inst I1
  rcases look f with ⟨_, z⟩ | ⟨o, r, rfl, hl, rel⟩
  · rw [l] at z
    cases z
  · obtain ⟨u, hu, ru⟩ := RelO.some_of (v := v) (o := r) (by rw [← l]; exact rel)
    exact HandSPX.exc_get I1.kIn J T.ga T.gg T.exC (PySem.W.findObj_own T.hdC no rfl (by rw [hl, hu])) (handed_of ru) ⟨v, H1, I1.tok _, ru, q⟩
end L2.RV
set_option Elab.async false
set_option linter.all false
set_option maxRecDepth 100000
set_option maxHeartbeats 4000000
/-! Own exceptions as values: they are made, by position and by name. -/
namespace L2.RV
open PySem PySem.Spec PyProof.Rows
/-- the promise of an __init__ that stores its parameters ff as fields of these names -/
def spErr (K : PySem.W.Frag) (ff : List Str) : Sp := fun vs H Q _ => ∃ (a C : Addr) (ws : List V), vs = .ref a :: ws ∧ ws.length = ff.length ∧ OexC K C ∧ (∀ f ∈ ff, PySem.W.findIn K (.ref C) f = some none) ∧ H a = some (exo a C none) ∧
  ∀ (H' : Hp) (fs : List (Str × V)), (∀ b o, b ≠ a → H b = some o → H' b = some o) → ErrAt H' a C fs → (∀ f v, (ff.zip ws).lookup f = some v → fs.lookup f = some v) → Q .non H'
/-- what is asked of the class and its __init__ -/
structure MkX (P : Program) (w : World) (K : PySem.W.Frag) (mg : Str → Option Value) (base : Heap) (k : Nat) (x : Str) (C fI : Addr) (fd : FuncData) (ff : List Str) : Prop where
  gC : mg x = some (.ref C)
  o : OexC K C
  no : ∀ f ∈ ff, PySem.W.findIn K (.ref C) f = some none
  iC : PySem.W.findIn K (.ref C) "__init__" = some (some (.ref fI))
  tI : PySem.W.typeIn K (.ref fI) = some (.type "function")
  F : FnOk P w K mg base CX0 k fI fd (("self" : Str) :: ff) (spErr K ff)
section
variable {X : Cx} {k : Nat} {fI C : Addr} {fd : FuncData} {ff ks : List Str} {x : Str}
/-- the call of the class: us by position, ws by the names ks; bound, they are as, the fields' values ts -/
theorem run_mkX {pins : List (Addr × Obj)} {σ : L2.St} {H : Hp} {s : Shared} {Q : VK} {us ws as : List Value} {ts : List V} (M : MkX X.prog X.w X.K X.mg X.base k x C fI fd ff) (hr : Room (k + 1) X.A)
    (to : ∀ (s : Shared) (u : Value), X.K.In s.heap → BindsTo s fd ⟨u :: us, ks.zip ws⟩ ((("self" : Str) :: ff).zip (u :: as))) (I : Inv X pins σ H s) (rt : Vals ts as) (l : ts.length = ff.length) (few : us.length ≤ 1000)
    (h : ∀ (a : Addr) (H3 : Hp) (fs : List (Str × V)), H a = none → Same H H3 → ErrAt H3 a C fs → (∀ f v, (ff.zip ts).lookup f = some v → fs.lookup f = some v) → Q (.ref a) H3) :
    wpAny (model X.prog X.w) X.A (call (.ref C) us (ks.zip ws)) (EP X pins σ Q) X.xe s := by
  obtain ⟨nm, q, N, bs, bm, sn, sub, ab, col, dd, k0, k1, k2, k3, k5, hC, hbm⟩ := M.o.cls
  obtain ⟨hp, gs, dr, tk, os⟩ := s
  have few2 : us.length ≤ sizeLine := by rw [sizeLine_eq]; omega
  have up : hp.objs.size ≤ hp.objs.size + 1 := Nat.le_succ _
  have fresh : H (hp.objs.size + 1) = none := I.hok.fresh up
  have keep : ∀ b o, hp.get? b = some o → ((hp.push (PySem.W.kdv_tup us)).push (PySem.HandSPX.excO C hp.objs.size)).get? b = some o := fun b o e => Heap.get?_push_of_some _ (Heap.get?_push_of_some _ e)
  have made : ((hp.push (PySem.W.kdv_tup us)).push (PySem.HandSPX.excO C hp.objs.size)).get? (hp.objs.size + 1) = some (PySem.HandSPX.excO C hp.objs.size) := by heap_get
  have J : Inv X pins σ (upd H (hp.objs.size + 1) (exo (hp.objs.size + 1) C none)) ⟨(hp.push (PySem.W.kdv_tup us)).push (PySem.HandSPX.excO C hp.objs.size), gs, dr, tk, os⟩ :=
    I.laid (t' := tk) (a := hp.objs.size + 1) (o := exo (hp.objs.size + 1) C none) (h' := (hp.push (PySem.W.kdv_tup us)).push (PySem.HandSPX.excO C hp.objs.size)) keep up (exo_ok made)
  have both : Vals (V.ref (hp.objs.size + 1) :: ts) (Value.ref (hp.objs.size + 1) :: as) := .cons rfl rt
  have asked : spErr X.K ff (V.ref (hp.objs.size + 1) :: ts) (upd H (hp.objs.size + 1) (exo (hp.objs.size + 1) C none)) (fun v H2 => v = .non ∧ Q (.ref (hp.objs.size + 1)) H2) E0 := by
    refine ⟨_, C, _, rfl, l, M.o, M.no, upd_same, fun H' fs sm at_ look => ⟨rfl, h _ H' fs fresh (fun b o z => ?_) at_ look⟩⟩
    have nb : b ≠ hp.objs.size + 1 := ne_of_none z fresh
    exact sm b o nb (by rw [upd_ne nb]; exact z)
  apply wpAny_call
  refine PySem.RVX.kwCall F.excBase_ValueError (fun Y => PySem.HandSPX.refsVE_contains Y bm hbm) (I.kIn _ _ hC) (PySem.W.looks_findIn I.kIn M.iC) (fun self => PySem.W.bind_fn I.kIn self M.tI) few2 ?_
  refine codeAny_mono (M.F.run _ X.stack _ _ ⟨Value.ref (hp.objs.size + 1) :: us, ks.zip ws⟩ (Value.ref (hp.objs.size + 1) :: as) _ _ E0 (hr.make C us (ks.zip ws)) (J.env0.make C us (ks.zip ws)) (to _ _ J.kIn) both asked) ?_
  intro r' s' hq
  match r', hq with
  | .error er, hq => exact hq.elim
  | .ok .next, hq => exact hq.elim
  | .ok .brk, hq => exact hq.elim
  | .ok .cont, hq => exact hq.elim
  | .ok (.ret u), hq =>
    obtain ⟨v, H2, J2, rv, ev, q2⟩ := J.after hq
    subst ev
    exact ⟨rv, ⟨V.ref (hp.objs.size + 1), H2, J2, rfl, q2⟩⟩
end
/-! ### the __init__ of one and of two fields -/
def args1 (f : Str) (p1 p2 : Pos) : Arguments := { posonlyargs := [], args := [{ arg := "self", annotation := none, pos := p1 }, { arg := f, annotation := none, pos := p2 }], vararg := none, kwonlyargs := [], kw_defaults := [], kwarg := none, defaults := [] }
def body1 (f : Str) (q1 q2 q3 q4 : Pos) : List Stmt := [.Assign [.Attribute (.Name "self" q1) f q2] (.Name f q3) q4]
def scope1 (f : Str) : Scope := { kind := .function, names := [("self", .local), (f, .local)], isGenerator := false, isCoroutine := false, more := [] }
def args2 (f g : Str) (p1 p2 p3 : Pos) : Arguments := { posonlyargs := [], args := [{ arg := "self", annotation := none, pos := p1 }, { arg := f, annotation := none, pos := p2 }, { arg := g, annotation := none, pos := p3 }], vararg := none, kwonlyargs := [], kw_defaults := [], kwarg := none, defaults := [] }
def body2 (f g : Str) (q1 q2 q3 q4 r1 r2 r3 r4 : Pos) : List Stmt := [.Assign [.Attribute (.Name "self" q1) f q2] (.Name f q3) q4, .Assign [.Attribute (.Name "self" r1) g r2] (.Name g r3) r4]
def scope2 (f g : Str) : Scope := { kind := .function, names := [("self", .local), (f, .local), (g, .local)], isGenerator := false, isCoroutine := false, more := [] }
theorem look1 {f g : Str} {v : V} (h : f = g) : ([(g, v)] : List (Str × V)).lookup f = some v := by
  subst h
  simp [List.lookup]
section
variable {P : Program} {w : World} {K : PySem.W.Frag} {mg : Str → Option Value} {base : Heap} {qual f g : Str} {fI : Addr} {fd : FuncData} {p1 p2 p3 q1 q2 q3 q4 r1 r2 r3 r4 : Pos}
theorem ok_init1 (F : FunD K "__init__" qual (args1 f p1 p2) (body1 f q1 q2 q3 q4) (scope1 f) [] [] fI fd) (S : FnScope ["self", f] ["self", f] (scope1 f)) (v0 : (scope1 f).names.lookup ("self" : Str) = some .local) (v1 : (scope1 f).names.lookup f = some .local)
    (d1 : (f == ("__debug__" : Str)) = false) (c1 : (f == ("__classdict__" : Str)) = false) (hs : ∀ env, swapsWith (.Name f q3) (some (.Attribute (.Name "self" q1) f q2)) q4.line env = pure false) :
    FnOk P w K mg base CX0 1 fI fd ["self", f] (spErr K [f]) := by
  refine F.ok S (fun vs H Q E h => ?_) (fun cdv A outer s H vs Q E hr h => ?_)
  · obtain ⟨a, C, ws, rfl, l, _⟩ := h
    exact congrArg Nat.succ l
  · obtain ⟨a, C, ws, rfl, l, T, no, at_, k⟩ := h
    obtain ⟨v, rfl⟩ : ∃ v, ws = [v] := List.length_eq_one_iff.mp l
    refine ⟨_, PSs.nox (pss_one (ps_ost (pe_var (i := 0) rfl (.inl v0)) (pe_var (i := 1) rfl (.inl v1) d1 c1) (hs _))), ?_⟩
    refine ⟨v, rfl, .ref a, rfl, a, C, rfl, T, no f (List.mem_singleton.mpr rfl), .inl ⟨at_, fun dx nd ne => ?_⟩⟩
    refine k _ [(f, v)] (fun b o nb z => ?_) (.inr ⟨dx, upd_same, by rw [upd_ne ne, upd_same]⟩) (fun f' v' z => z)
    rw [upd_ne nb, upd_ne (ne_of_none z nd)]
    exact z
theorem ok_init2 (F : FunD K "__init__" qual (args2 f g p1 p2 p3) (body2 f g q1 q2 q3 q4 r1 r2 r3 r4) (scope2 f g) [] [] fI fd) (S : FnScope ["self", f, g] ["self", f, g] (scope2 f g)) (ng : f ≠ g) (v0 : (scope2 f g).names.lookup ("self" : Str) = some .local)
    (v1 : (scope2 f g).names.lookup f = some .local) (v2 : (scope2 f g).names.lookup g = some .local) (d1 : (f == ("__debug__" : Str)) = false) (c1 : (f == ("__classdict__" : Str)) = false) (d2 : (g == ("__debug__" : Str)) = false) (c2 : (g == ("__classdict__" : Str)) = false)
    (h1 : ∀ env, swapsWith (.Name f q3) (some (.Attribute (.Name "self" q1) f q2)) q4.line env = pure false) (h2 : ∀ env, swapsWith (.Name g r3) (some (.Attribute (.Name "self" r1) g r2)) r4.line env = pure false) :
    FnOk P w K mg base CX0 1 fI fd ["self", f, g] (spErr K [f, g]) := by
  refine F.ok S (fun vs H Q E h => ?_) (fun cdv A outer s H vs Q E hr h => ?_)
  · obtain ⟨a, C, ws, rfl, l, _⟩ := h
    exact congrArg Nat.succ l
  · obtain ⟨a, C, ws, rfl, l, T, no, at_, k⟩ := h
    obtain ⟨v, u, rfl⟩ : ∃ v u, ws = [v, u] := by
      match ws, l with
      | [v, u], _ => exact ⟨v, u, rfl⟩
    refine ⟨_, PSs.nox (pss_cons (ps_ost (pe_var (i := 0) rfl (.inl v0)) (pe_var (i := 1) rfl (.inl v1) d1 c1) (h1 _)) (pss_one (ps_ost (pe_var (i := 0) rfl (.inl v0)) (pe_var (i := 2) rfl (.inl v2) d2 c2) (h2 _)))), ?_⟩
    refine ⟨v, rfl, .ref a, rfl, a, C, rfl, T, no f (by simp), .inl ⟨at_, fun dx nd ne => ?_⟩⟩
    refine ⟨u, rfl, .ref a, rfl, a, C, rfl, T, no g (by simp), .inr ⟨dx, [(f, v)], upd_same, by rw [upd_ne ne, upd_same], by show 1 ≤ 900; decide, ?_⟩⟩
    refine k _ [(g, u), (f, v)] (fun b o nb z => ?_) (.inr ⟨dx, by rw [upd_ne ne.symm, upd_same], upd_same⟩) (fun f' v' z => ?_)
    · have nbd := ne_of_none z nd
      rw [upd_ne nbd, upd_ne nb, upd_ne nbd]
      exact z
    · have z' : List.lookup f' [(f, v), (g, u)] = some v' := z
      rw [lookup_put] at z'
      rw [lookup_put]
      by_cases e1 : f' = f
      · rw [if_pos e1] at z'
        cases z'
        rw [if_neg (fun e2 => ng (e1.symm.trans e2)), e1]
        exact look1 rfl
      · rw [if_neg e1, lookup_put] at z'
        by_cases e2 : f' = g
        · rw [if_pos e2] at z' ⊢
          exact z'
        · rw [if_neg e2] at z'
          cases z'
end
end L2.RV
set_option Elab.async false
set_option linter.all false
set_option maxRecDepth 100000
set_option maxHeartbeats 4000000
/-! What a law's proof asks of the heap behind the top, as one Bool. -/
namespace L2.RV
open PySem PySem.Spec PyProof.Rows
/-! ### the hook -/
def obsR (chk : PySem.W.Frag → Bool) (fn : List He.DefD) (K : PySem.W.Frag) : He.AlD := (chk K && fn.all fun d => d.ok K, fn.map fun d => He.fnW K d.at_)
def SaysR (chk : PySem.W.Frag → Bool) (fn : List He.DefD) (K : PySem.W.Frag) : Prop := obsR chk fn K = He.valD fn
def obsRG (n : Nat) (chk : PySem.W.Frag → Bool) (fn : List He.DefD) (g : Addr → Option Obj) : He.AlD := obsR chk fn (He.frG g (He.asD g n))
def hookR (n : Nat) (chk : PySem.W.Frag → Bool) (fn : List He.DefD) : PySem.W.Hook where
  α := He.AlD
  obs := fun s => obsRG n chk fn s.heap.get?
  val := fun _ => He.valD fn
  says := fun _ h => ∃ K : PySem.W.Frag, K.In h ∧ SaysR chk fn K
  of := fun _ _ e => ⟨_, He.frG_in, e⟩
  keeps := fun _ _ _ ⟨K, hK, c⟩ k => ⟨K, PySem.W.Frag.In.keeps hK k, c⟩
theorem obsRG_eq {n : Nat} {chk : PySem.W.Frag → Bool} {fn : List He.DefD} {g : Addr → Option Obj} {s : Shared} (h : ∀ a, g a = s.heap.get? a) : obsRG n chk fn g = (hookR n chk fn).obs s := by
  have e : g = s.heap.get? := funext h
  rw [e] <;> rfl
section
variable {chk : PySem.W.Frag → Bool} {fn : List He.DefD} {K : PySem.W.Frag}
theorem SaysR.look (c : SaysR chk fn K) : chk K = true := (Bool.and_eq_true_iff.mp (congrArg (fun z : He.AlD => z.1) c)).1
theorem SaysR.def_ (c : SaysR chk fn K) (i : Nat) {d : He.DefD} (h : fn[i]? = some d := by rfl) : ∃ fd, FunD K d.name d.qual d.params d.body d.scope (d.dvs K) (d.kws K) (He.fAd K d.at_) fd := by
  have all := (Bool.and_eq_true_iff.mp (congrArg (fun z : He.AlD => z.1) c)).2
  have same : fn.map (fun d => He.fnW K d.at_) = fn.map He.DefD.val := congrArg (fun z : He.AlD => z.2) c
  have at_ := congrArg (fun l => l[i]?) same
  simp only [List.getElem?_map, h, Option.map_some, Option.some.injEq] at at_
  exact He.DefD.funD at_ (List.all_eq_true.mp all d (List.mem_of_getElem? h))
end
/-! ### an own exception class -/
def eqOO (a b : Option (Option Value)) : Bool := decide (a = b)
def oexB (K : PySem.W.Frag) (C : Addr) : Bool := match K.lookup C with
  | some ⟨.type c, _, .cls cd, sl⟩ => (match cd.mro, sl.toList with
    | .ref C' :: bm, [_, _, _, _, some (.builtin n), _] => decide (c = "type") && (decide (C' = C) && (decide (n = "ValueError.__new__") && (!cd.hasDel && (cd.hasDict && PySem.HandSPX.refsVE bm))))
    | _, _ => false)
  | _ => false
def clsB (K : PySem.W.Frag) (C : Addr) : Bool := oexB K C && (eqOO (PySem.W.findIn K (.ref C) "__setattr__") (some (some (.builtin "object.__setattr__"))) && (decide (PySem.W.subIn K (.ref C) (.type "BaseException") = some true) &&
  (decide (PySem.W.typeIn K (.ref C) = some (.type "type")) && (PySem.W.keepIn K (.ref C) && (eqOO (PySem.W.findIn K (.ref C) "__getattribute__") (some (some (.builtin "BaseException.__getattribute__"))) && (eqOO (PySem.W.findIn K (.ref C) "__getattr__") (some none) &&
  (PySem.W.hasDictIn K C && (eqOO (PySem.W.findIn K (.ref C) "__class__") (some (some (.builtin "object.__class__"))) && (eqOO (PySem.W.specialIn K (.builtin "object.__class__") "__get__") (some (some (.builtin "getset_descriptor.__get__"))) &&
  (decide (PySem.W.takesIn K (.builtin "object.__class__") = some true) && decide (PySem.W.mroIn K C (.type "object") = some true)))))))))))
theorem ba2 {a b : Bool} (h : (a && b) = true) : a = true ∧ b = true := Bool.and_eq_true_iff.mp h
theorem oexB_ok {K : PySem.W.Frag} {C : Addr} (h : oexB K C = true) : ∃ nm q N bs bm sn sub ab col dd k0 k1 k2 k3 k5, K.lookup C = some (excClassObj nm q C N bs bm true sn sub ab col dd k0 k1 k2 k3 k5 "ValueError.__new__") ∧ PySem.HandSPX.refsVE bm = true := by
  unfold oexB at h
  split at h
  · rename_i c dd cd sl look
    split at h
    · rename_i C' bm k0 k1 k2 k3 n k5 hm hs
      obtain ⟨h1, h⟩ := ba2 h
      obtain ⟨h2, h⟩ := ba2 h
      obtain ⟨h3, h⟩ := ba2 h
      obtain ⟨h4, h⟩ := ba2 h
      obtain ⟨h5, h6⟩ := ba2 h
      obtain rfl := of_decide_eq_true h1
      obtain rfl := of_decide_eq_true h2
      obtain rfl := of_decide_eq_true h3
      obtain ⟨nm, bs, mro, ns, qn, hd, sn, sub, ab, col, del⟩ := cd
      dsimp only at hm h4 h5
      subst hm
      have h4' : del = false := by simpa using h4
      subst h4' h5
      obtain ⟨l⟩ := sl
      have hs' : l = [k0, k1, k2, k3, some (.builtin "ValueError.__new__"), k5] := hs
      subst hs'
      exact ⟨nm, qn, ns, bs, bm, sn, sub, ab, col, dd, k0, k1, k2, k3, k5, look, h6⟩
    · cases h
  · cases h
theorem clsB_ok {K : PySem.W.Frag} {C : Addr} (h : clsB K C = true) : OexC K C ∧ ExcC K C ∧ XfC K C := by
  obtain ⟨a0, h⟩ := ba2 h
  obtain ⟨a1, h⟩ := ba2 h
  obtain ⟨a2, h⟩ := ba2 h
  obtain ⟨a3, h⟩ := ba2 h
  obtain ⟨a4, h⟩ := ba2 h
  obtain ⟨a5, h⟩ := ba2 h
  obtain ⟨a6, h⟩ := ba2 h
  obtain ⟨a7, h⟩ := ba2 h
  obtain ⟨a8, h⟩ := ba2 h
  obtain ⟨a9, h⟩ := ba2 h
  obtain ⟨a10, a11⟩ := ba2 h
  exact ⟨⟨oexB_ok a0, of_decide_eq_true a1, of_decide_eq_true a2, of_decide_eq_true a3, a4⟩, ⟨of_decide_eq_true a5, of_decide_eq_true a6, of_decide_eq_true a2, a7, of_decide_eq_true a8, of_decide_eq_true a9, of_decide_eq_true a10, of_decide_eq_true a11⟩,
    ⟨of_decide_eq_true a5, of_decide_eq_true a6, of_decide_eq_true a2, a7⟩⟩
/-- the class x has an __init__ of its own with the fields ff -/
def iniB (K : PySem.W.Frag) (x : Str) (ff : List Str) : Bool := eqOO (PySem.W.findIn K (.ref (He.ga K x)) "__init__") (some (some (.ref (He.fAd K (x, some "__init__"))))) && (decide (PySem.W.typeIn K (.ref (He.fAd K (x, some "__init__"))) = some (.type "function")) &&
  ff.all fun f => eqOO (PySem.W.findIn K (.ref (He.ga K x)) f) (some none))
/-- the module's name x stands for an object -/
def gloB (K : PySem.W.Frag) (x : Str) : Bool := eqOO (PySem.W.nsIn K mainGlobals x) (some (some (.ref (He.ga K x))))
def freeB (K : PySem.W.Frag) (x : Str) : Bool := eqOO (PySem.W.nsIn K mainGlobals x) (some none)
section
variable {K : PySem.W.Frag} {h : Heap} {mg : Str → Option Value} {x : Str} {ff : List Str}
theorem gloB_ok (X : K.In h) (G : h.Ns mainGlobals mg) (c : gloB K x = true) : mg x = some (.ref (He.ga K x)) := PySem.W.mg_of X G (of_decide_eq_true c)
theorem freeB_ok (X : K.In h) (G : h.Ns mainGlobals mg) (c : freeB K x = true) : mg x = none := PySem.W.mg_none_of X G (of_decide_eq_true c)
theorem iniB_ok (c : iniB K x ff = true) : PySem.W.findIn K (.ref (He.ga K x)) "__init__" = some (some (.ref (He.fAd K (x, some "__init__")))) ∧ PySem.W.typeIn K (.ref (He.fAd K (x, some "__init__"))) = some (.type "function") ∧ ∀ f ∈ ff, PySem.W.findIn K (.ref (He.ga K x)) f = some none := by
  obtain ⟨a, c⟩ := ba2 c
  obtain ⟨b, c⟩ := ba2 c
  exact ⟨of_decide_eq_true a, of_decide_eq_true b, fun f m => of_decide_eq_true (List.all_eq_true.mp c f m)⟩
end
end L2.RV
set_option Elab.async false
set_option linter.all false
set_option maxRecDepth 100000
set_option maxHeartbeats 4000000
/-! repr of data: what stands in the heap as data, also in dicts. -/
namespace L2.RV
open PySem PySem.Spec PyProof.Rows
/-- all that was tracked is as it was, but at p -/
def Keep (p : Addr) (H H' : Hp) : Prop := ∀ b o, b ≠ p → H b = some o → H' b = some o
theorem Keep.refl {p : Addr} {H : Hp} : Keep p H H := fun _ _ _ h => h
theorem Keep.trans {p : Addr} {H H1 H2 : Hp} (a : Keep p H H1) (b : Keep p H1 H2) : Keep p H H2 := fun c o n h => b c o n (a c o n h)
theorem Keep.of {p : Addr} {H H' : Hp} (s : Same H H') : Keep p H H' := fun b o _ h => s b o h
theorem Keep.upd {p : Addr} {H : Hp} {o : HO} : Keep p H (upd H p o) := fun b u n h => by rw [upd_ne n]; exact h
theorem same_new {H : Hp} {a : Addr} {o : HO} (h : H a = none) : Same H (upd H a o) := fun b u z => by rw [upd_ne (ne_of_none z h)]; exact z
/-- v is the datum d, now and as long as what is tracked stands, but at p -/
def Rds (K : PySem.W.Frag) (p : Addr) (H : Hp) (v : V) (d : PyData) : Prop := ∀ (X : Cx) (pins : List (Addr × Obj)) (σ : L2.St) (H' : Hp) (s : Shared) (u : Value), X.K = K → Keep p H H' → Inv X pins σ H' s → RelV v u → ∃ as, Reads s.heap u d as ∧ sysModules ∉ as
theorem Rds.keep {K : PySem.W.Frag} {p : Addr} {H H' : Hp} {v : V} {d : PyData} (r : Rds K p H v d) (s : Keep p H H') : Rds K p H' v d := fun X pins σ H2 sh u e s2 I ru => r X pins σ H2 sh u e (s.trans s2) I ru
theorem Rds.same {K : PySem.W.Frag} {p : Addr} {H H' : Hp} {v : V} {d : PyData} (r : Rds K p H v d) (s : Same H H') : Rds K p H' v d := r.keep (.of s)
theorem rds_non {K : PySem.W.Frag} {p : Addr} {H : Hp} : Rds K p H .non .none := fun X pins σ H' s u _ _ _ r => by
  cases r
  exact ⟨_, .none, by simp⟩
theorem rds_bl {K : PySem.W.Frag} {p : Addr} {H : Hp} (b : Bool) : Rds K p H (.bl b) (.bool b) := fun X pins σ H' s u _ _ _ r => by
  cases r
  exact ⟨_, .bool b, by simp⟩
theorem rds_int {K : PySem.W.Frag} {p : Addr} {H : Hp} (i : Int) : Rds K p H (.int i) (.int i) := fun X pins σ H' s u _ _ _ r => by
  obtain ⟨t, rfl⟩ := r
  exact ⟨_, .int i t, by simp⟩
theorem rds_str {K : PySem.W.Frag} {p : Addr} {H : Hp} (x : Str) : Rds K p H (.str x) (.str x) := fun X pins σ H' s u _ _ _ r => by
  obtain ⟨t, rfl⟩ := r
  exact ⟨_, .str x t, by simp⟩
inductive RdsA (K : PySem.W.Frag) (p : Addr) (H : Hp) : List V → List PyData → Prop
  | nil : RdsA K p H [] []
  | cons {v : V} {vs : List V} {d : PyData} {ds : List PyData} : Rds K p H v d → RdsA K p H vs ds → RdsA K p H (v :: vs) (d :: ds)
theorem RdsA.reads {K : PySem.W.Frag} {p : Addr} {H : Hp} {X : Cx} {pins : List (Addr × Obj)} {σ : L2.St} {H' : Hp} {s : Shared} (e : X.K = K) (sm : Keep p H H') (I : Inv X pins σ H' s) : ∀ {vs : List V} {ds : List PyData} {us : List Value}, RdsA K p H vs ds → Vals vs us → ∃ as, ReadsAll s.heap us ds as ∧ sysModules ∉ as
  | _, _, _, .nil, .nil => ⟨_, .nil, by simp⟩
  | _, _, _, .cons h1 h2, .cons r1 r2 => by
    obtain ⟨as, q1, n1⟩ := h1 X pins σ H' s _ e sm I r1
    obtain ⟨bs, q2, n2⟩ := RdsA.reads e sm I h2 r2
    exact ⟨_, .cons q1 q2, fun z => (List.mem_append.mp z).elim n1 n2⟩
theorem rds_lst {K : PySem.W.Frag} {p : Addr} {H : Hp} {a : Addr} {xs : List V} {ds : List PyData} (h : H a = some (.lst xs)) (n : a ≠ sysModules) (np : a ≠ p) (r : RdsA K p H xs ds) : Rds K p H (.ref a) (.list ds) := fun X pins σ H' s u e sm I ru => by
  cases ru
  obtain ⟨its, rv, ⟨o, m, ho, hc, _, hd⟩, _⟩ := I.list (SqL.of (sm _ _ np h))
  obtain ⟨as, q, na⟩ := r.reads e sm I rv
  exact ⟨_, .list ho hc hd q, fun z => (List.mem_cons.mp z).elim (fun y => n y.symm) na⟩
theorem rds_tup {K : PySem.W.Frag} {p : Addr} {H : Hp} {a : Addr} {xs : List V} {ds : List PyData} (h : H a = some (.tup xs)) (np : a ≠ p) (r : RdsA K p H xs ds) : Rds K p H (.ref a) (.tuple ds) := fun X pins σ H' s u e sm I ru => by
  cases ru
  obtain ⟨its, rv, ⟨o, ho, hc, m, hd⟩, _⟩ := I.tuple (SqT.of (sm _ _ np h))
  obtain ⟨as, q, na⟩ := r.reads e sm I rv
  exact ⟨_, .tuple ho hc hd q, na⟩
/-- a key of a dict as data -/
def keyD : Key → PyData
  | .inl i => .int i
  | .inr x => .str x
theorem key_reads {h : Heap} {k : Key} {v : Value} (e : keyIs k v = true) : Reads h v (keyD k) [] := by
  rcases keyIs_shape e with ⟨i, t, rfl, rfl⟩ | ⟨x, t, rfl, rfl⟩
  · exact .int i t
  · exact .str x t
theorem pairs_reads {P : Program} {w : World} {h : Heap} : ∀ {es : List DictEntry} {vs : List (Key × Value)}, Pairs (mixKind P w) es vs → ReadsAll h (es.map (·.key)) (vs.map fun p => keyD p.1) [] ∧ es.map (·.val) = vs.map (·.2)
  | _, _, .nil => ⟨.nil, rfl⟩
  | _, _, .cons k e r => by
    obtain ⟨q1, q2⟩ := pairs_reads (h := h) r
    refine ⟨?_, ?_⟩
    · exact .cons (key_reads k) q1
    · rw [List.map_cons, List.map_cons, e, q2]
theorem kv_vals : ∀ {kvs : List (Key × V)} {vs : List (Key × Value)}, KV kvs vs → Vals (kvs.map (·.2)) (vs.map (·.2)) ∧ kvs.map (·.1) = vs.map (·.1)
  | _, _, .nil => ⟨.nil, rfl⟩
  | _, _, .cons h r => by
    obtain ⟨q1, q2⟩ := kv_vals r
    refine ⟨.cons h.2 q1, ?_⟩
    rw [List.map_cons, List.map_cons, h.1, q2]
theorem rds_dct {K : PySem.W.Frag} {p : Addr} {H : Hp} {a : Addr} {kvs : List (Key × V)} {ds : List PyData} (h : H a = some (.dK kvs)) (np : a ≠ p) (r : RdsA K p H (kvs.map (·.2)) ds) : Rds K p H (.ref a) (.dict ((kvs.map fun p => keyD p.1).zip ds)) := fun X pins σ H' s u e sm I ru => by
  cases ru
  obtain ⟨_, nm, vs, rel, o, es, ep, ho, ex, hd, _, hp, _⟩ := dk_of I.hok (sm _ _ np h)
  obtain ⟨rv, ek⟩ := kv_vals rel
  obtain ⟨q1, q2⟩ := pairs_reads (h := s.heap) hp
  obtain ⟨as, q, na⟩ := r.reads e sm I rv
  have l : (kvs.map fun p => keyD p.1).length = ds.length := by
    have l1 : ∀ {vs : List V} {ds : List PyData}, RdsA K p H vs ds → vs.length = ds.length := fun {vs ds} z => by
      induction z with
      | nil => rfl
      | cons _ _ ih => exact congrArg Nat.succ ih
    have l2 := l1 r
    rw [List.length_map] at l2 ⊢
    exact l2
  have ek2 : (kvs.map fun p => keyD p.1) = vs.map fun p => keyD p.1 := by
    have z := congrArg (List.map keyD) ek
    rw [List.map_map, List.map_map] at z
    exact z
  refine ⟨_, Reads.dict (as := []) (bs := as) ho ex.1 hd ?_ ?_, ?_⟩
  · rw [List.map_fst_zip (Nat.le_of_eq l), ek2]
    exact q1
  · rw [List.map_snd_zip (Nat.le_of_eq l.symm), q2]
    exact q
  · intro z
    have na2 : sysModules ≠ a := fun y => by
      rw [← y] at nm
      exact absurd nm (by decide)
    rcases List.mem_cons.mp z with y | y
    · exact na2 y
    · exact na y
/-- repr(x) of data -/
def rRepr (K : PySem.W.Frag) : List V → Hp → VK → Prop := fun xs H Q => ∃ p v d, xs = [v] ∧ Rds K p H v d ∧ d.showable = true ∧ d.depth ≤ 60 ∧ d.shown.length ≤ sizeLine ∧ Q (.str d.shown) H
theorem call_repr {X : Cx} (hg : X.A.guards = some []) (hu : X.A.units + 64 < cLine) : CallR X (.builtin "repr") (rRepr X.K) := by
  intro pins s σ H xs us Q I r h
  obtain ⟨p, v, d, rfl, rd, hs, hd, hz, q⟩ := h
  obtain ⟨u, rfl, ru⟩ := vals1 r
  obtain ⟨as, rds, nm⟩ := rd X pins σ H s u rfl Keep.refl I ru
  have fin : ∀ (h' : Heap) (t : Tok) (tk : Nat), (∀ b o, s.heap.get? b = some o → h'.get? b = some o) → EP X pins σ Q (.str d.shown t) { s with heap := h', toks := tk } := fun h' t tk k => ⟨.str d.shown, H, I.kept k, ⟨t, rfl⟩, q⟩
  have same : ∀ (t : Tok) (tk : Nat), EP X pins σ Q (.str d.shown t) { s with toks := tk } := fun t tk => fin s.heap t tk fun _ _ e => e
  have big : ∀ {a : Addr}, Reads s.heap (.ref a) d as → wpAny (model X.prog X.w) X.A (call (.builtin "repr") [.ref a]) (EP X pins σ Q) X.xe s := fun {a} rr => by
    refine repr_of_reads' (h₀ := s.heap) rr hs (fun _ => nm) hg ?_ (fun _ _ e => e) (fun h' u tk k => fin h' u tk k) hz
    have : d.depth + 1 ≤ 64 := Nat.le_trans (Nat.succ_le_succ hd) (by decide)
    omega
  cases rds with
  | none => exact PySem.P.repr_of_none (by
      have z := same s.toks (s.toks + 1)
      simpa only [PyData.shown] using z)
  | bool b => exact PySem.P.repr_of_bool (by
      have z := same s.toks (s.toks + 1)
      simpa only [PyData.shown] using z)
  | int i t => exact PySem.P.repr_of_int (by simpa [PyData.showable] using hs) (by
      have z := same s.toks (s.toks + 1)
      simpa only [PyData.shown] using z)
  | str x t => exact PySem.P.repr_of_str (by
      have z := same s.toks (s.toks + 1)
      simpa only [PyData.shown] using z) (by simpa only [PyData.shown] using hz)
  | list h1 h2 h3 h4 => exact big (.list h1 h2 h3 h4)
  | tuple h1 h2 h3 h4 => exact big (.tuple h1 h2 h3 h4)
  | dict h1 h2 h3 h4 h5 => exact big (.dict h1 h2 h3 h4 h5)
/-- a written list: its place is not that of sys.modules -/
def tLstN (t : TA) : TE := fun σ H Q => t σ H fun xs H1 => xs.length ≤ sizeLine ∧ ∀ p, H1 p = none → p ≠ sysModules → Q (.ref p) (upd H1 p (.lst xs))
theorem pe_lstN {X : Cx} {es : List Expr} {t : TA} {pos : Pos} (h : PA X es t) : PE X (.List es pos) (tLstN t) := by
  constructor
  intro pins s σ H Q I hq
  apply wpAny_List_spliced
  refine thn (h.run pos pins s σ H _ I hq) ?_
  rintro us s1 ⟨xs, H1, I1, r, z, q⟩
  refine ⟨by rw [← r.length]; exact z, ?_⟩
  have fresh : H1 s1.heap.objs.size = none := I1.hok.fresh (Nat.le_refl _)
  exact ⟨.ref s1.heap.objs.size, upd H1 s1.heap.objs.size (.lst xs), I1.laid (t' := s1.toks) (fun b u e => Heap.get?_push_of_some _ e) (Nat.le_refl _) ⟨z, us, 0, r, Heap.get?_push_size _ rfl⟩, rfl, q _ fresh (Nat.ne_of_gt I1.big)⟩
end L2.RV
set_option Elab.async false
set_option linter.all false
set_option maxRecDepth 100000
set_option maxHeartbeats 4000000
/-! One rule for each sign, whatever stands beside it. -/
namespace L2.RV
open PySem PySem.Spec PyProof.Rows
section
variable {X : Cx}
def rAddS : R2 := fun x y H Q => ∃ i j, x = .str i ∧ y = .str j ∧ i.length + j.length ≤ sizeLine ∧ Q (.str (i ++ j)) H
def rPlus : R2 := fun x y H Q => rI0 (fun i j => .int (i + j)) x y H Q ∨ (rCat x y H Q ∨ rAddS x y H Q)
theorem op_plus : OpR X (binaryOp .Add) rPlus := op_add.or (op_cat.or op_add_str)
/-- a text times a written number -/
def rMulS : R2 := fun x y H Q => ∃ z n, x = .str z ∧ y = .int n ∧ MulOk z n ∧ Q (.str (Txt.mul z n)) H
theorem op_mulS : OpR X (binaryOp .Mult) rMulS := by
  intro pins s σ H x y v u Q I rx ry h
  obtain ⟨z, n, rfl, rfl, ok, q⟩ := h
  obtain ⟨t, rfl⟩ := rx
  obtain ⟨t', rfl⟩ := ry
  exact PySem.SB.mul ok fun u k => ⟨.str _, H, I.tok _, ⟨_, rfl⟩, q⟩
def rTimes : R2 := fun x y H Q => rI CMul (fun i j => .int (i * j)) x y H Q ∨ (rRep x y H Q ∨ rMulS x y H Q)
theorem op_times : OpR X (binaryOp .Mult) rTimes := op_mul.or (op_rep.or op_mulS)
def rSame (K : PySem.W.Frag) : R2 := fun x y H Q => rEq x y H Q ∨ rEqD K x y H Q
def rDiff (K : PySem.W.Frag) : R2 := fun x y H Q => rNe x y H Q ∨ rNeD K x y H Q
theorem op_same (hu : X.A.units + 64 < cLine) : OpR X (compareOp .Eq) (rSame X.K) := op_eq.or (op_eqD hu)
theorem op_diff (hu : X.A.units + 64 < cLine) : OpR X (compareOp .NotEq) (rDiff X.K) := op_ne.or (op_neD hu)
end
/-! ### equal data -/
theorem dpA_str {K : PySem.W.Frag} {H : Hp} : ∀ xs : List Str, DpAll K H (xs.map V.str) (xs.map PyData.str)
  | [] => .nil
  | x :: xs => .cons (.str x) (dpA_str xs)
theorem dpA_int {K : PySem.W.Frag} {H : Hp} : ∀ xs : List Int, DpAll K H (xs.map V.int) (xs.map PyData.int)
  | [] => .nil
  | x :: xs => .cons (.int x) (dpA_int xs)
theorem lay_str : ∀ xs : List Str, (xs.all fun x => PyData.strOk x) = true → PyData.canLayAll0 (xs.map PyData.str) = true
  | [], _ => by simp [PyData.canLayAll0]
  | x :: xs, h => by
    obtain ⟨h1, h2⟩ := Bool.and_eq_true_iff.mp (show (PyData.strOk x && xs.all fun x => PyData.strOk x) = true from h)
    have z := lay_str xs h2
    simp [PyData.canLayAll0, PyData.canLay0, z, h1]
theorem lay_int : ∀ xs : List Int, PyData.canLayAll0 (xs.map PyData.int) = true
  | [] => by simp [PyData.canLayAll0]
  | x :: xs => by
    have z := lay_int xs
    simp [PyData.canLayAll0, PyData.canLay0, z]
theorem deep_str : ∀ xs : List Str, PyData.depthAll (xs.map PyData.str) ≤ 1
  | [] => by simp [PyData.depthAll]
  | x :: xs => by
    have z := deep_str xs
    simp only [List.map_cons, PyData.depthAll, PyData.depth]
    omega
theorem deep_int : ∀ xs : List Int, PyData.depthAll (xs.map PyData.int) ≤ 1
  | [] => by simp [PyData.depthAll]
  | x :: xs => by
    have z := deep_int xs
    simp only [List.map_cons, PyData.depthAll, PyData.depth]
    omega
theorem shaped_str {xs : List Str} (h : (xs.all fun x => PyData.strOk x) = true) : SeqAt.shaped (.list (xs.map PyData.str)) = true := by
  have z := deep_str xs
  have e : PyData.canLay0 (.list (xs.map PyData.str)) = true := by simp only [PyData.canLay0]; exact lay_str xs h
  have d : (PyData.list (xs.map PyData.str)).depth ≤ 64 := by simp only [PyData.depth]; omega
  unfold SeqAt.shaped
  rw [e, decide_eq_true d]
  rfl
theorem shaped_int (xs : List Int) : SeqAt.shaped (.list (xs.map PyData.int)) = true := by
  have z := deep_int xs
  have e : PyData.canLay0 (.list (xs.map PyData.int)) = true := by simp only [PyData.canLay0]; exact lay_int xs
  have d : (PyData.list (xs.map PyData.int)).depth ≤ 64 := by simp only [PyData.depth]; omega
  unfold SeqAt.shaped
  rw [e, decide_eq_true d]
  rfl
theorem same_data {d : PyData} (h : SeqAt.shaped d = true) : PyData.eqv d d = true := SeqAt.eqv_refl d (SeqAt.canLay_of_shaped h)
end L2.RV
set_option Elab.async false
set_option linter.all false
set_option maxRecDepth 100000
set_option maxHeartbeats 4000000
/-! Defs and error classes of the text, bundled for their callers. -/
namespace L2.RV
open PySem PySem.Spec PyProof.Rows
/-- the module's def x, with its promise -/
structure Def (P : Program) (w : World) (K : PySem.W.Frag) (mg : Str → Option Value) (base : Heap) (x : Str) (k : Nat) (ps : List Str) (sp : Sp) : Prop where
  ex : ∃ f fd, mg x = some (.ref f) ∧ PySem.W.keepIn K (.ref f) = true ∧ Binds K fd ps [] ∧ FnOk P w K mg base CX0 k f fd ps sp
structure DefG (P : Program) (w : World) (K : PySem.W.Frag) (mg : Str → Option Value) (base : Heap) (x : Str) (k : Nat) (ps : List Str) (sp : Sp) : Prop where
  ex : ∃ f fd, mg x = some (.ref f) ∧ PySem.W.keepIn K (.ref f) = true ∧ Binds K fd ps [] ∧ FnG P w K mg base CX0 k f fd ps sp
section
variable {X : Cx} {k : Nat} {ps : List Str} {sp : Sp} {x : Str} {p pos : Pos} {e : Expr} {es : List Expr} {t : TA}
theorem pe_callD (D : Def X.prog X.w X.K X.mg X.base x k ps sp) (hr : Room k X.A) (hg : Gl X x) (ha : PA X (e :: es) t) (hdb : (x == ("__debug__" : Str)) = false := by decide)
    (he : starEach (e :: es) X.env = (false, eval e X.env) :: starEach es X.env := by rfl) (hpl : (backTo pos (starEach es X.env)).any (·.1) = false := by rfl) : PE X (.Call (.Name x p) (e :: es) [] pos) (tCall sp [] E0 t) := by
  obtain ⟨f, fd, g, kp, b, F⟩ := D.ex
  exact pe_call F hr hg g kp b .nil pass0 ha hdb he hpl
theorem pe_callDG (D : DefG X.prog X.w X.K X.mg X.base x k ps sp) (hgu : X.A.guards = some []) (hr : Room k X.A) (hg : Gl X x) (ha : PA X (e :: es) t) (hdb : (x == ("__debug__" : Str)) = false := by decide)
    (he : starEach (e :: es) X.env = (false, eval e X.env) :: starEach es X.env := by rfl) (hpl : (backTo pos (starEach es X.env)).any (·.1) = false := by rfl) : PE X (.Call (.Name x p) (e :: es) [] pos) (tCall sp [] E0 t) := by
  obtain ⟨f, fd, g, kp, b, F⟩ := D.ex
  exact pe_callG F hgu hr hg g kp b .nil pass0 ha hdb he hpl
end
/-- an error stands at e, of the class at C; of its fields these are known -/
def ErrF (H : Hp) (e C : Addr) (l : List (Str × V)) : Prop := ∃ fs, ErrAt H e C fs ∧ ∀ f v, l.lookup f = some v → fs.lookup f = some v
theorem ErrF.same {H H' : Hp} {e C : Addr} {l : List (Str × V)} (x : ErrF H e C l) (s : Same H H') : ErrF H' e C l := by
  obtain ⟨fs, a, b⟩ := x
  exact ⟨fs, a.same s, b⟩
/-- error classes with one field, with two -/
structure Err1 (P : Program) (w : World) (K : PySem.W.Frag) (mg : Str → Option Value) (base : Heap) (x f : Str) (C : Addr) : Prop where
  ex : ∃ fI fd, MkX P w K mg base 1 x C fI fd [f] ∧ (∀ (s : Shared) (u v : Value), K.In s.heap → BindsTo s fd ⟨[u, v], []⟩ [("self", u), (f, v)]) ∧ ∀ (s : Shared) (u v : Value), K.In s.heap → BindsTo s fd ⟨[u], [(f, v)]⟩ [("self", u), (f, v)]
structure Err2 (P : Program) (w : World) (K : PySem.W.Frag) (mg : Str → Option Value) (base : Heap) (x f g : Str) (C : Addr) : Prop where
  ex : ∃ fI fd, MkX P w K mg base 1 x C fI fd [f, g] ∧ (∀ (s : Shared) (u v v' : Value), K.In s.heap → BindsTo s fd ⟨[u, v, v'], []⟩ [("self", u), (f, v), (g, v')]) ∧
    ∀ (s : Shared) (u v v' : Value), K.In s.heap → BindsTo s fd ⟨[u], [(g, v'), (f, v)]⟩ [("self", u), (f, v), (g, v')]
def tErr1 (C : Addr) (f : Str) (te : TE) : TE := fun σ H Q => te σ H fun v H1 => ∀ a H2, H1 a = none → Same H1 H2 → ErrF H2 a C [(f, v)] → Q (.ref a) H2
def tErr2 (C : Addr) (f g : Str) (ta tb : TE) : TE := fun σ H Q => ta σ H fun v H1 => tb σ H1 fun u H2 => ∀ a H3, H2 a = none → Same H2 H3 → ErrF H3 a C [(f, v), (g, u)] → Q (.ref a) H3
/-- the second field is told first -/
def tErr2R (C : Addr) (f g : Str) (tb ta : TE) : TE := fun σ H Q => tb σ H fun u H1 => ta σ H1 fun v H2 => ∀ a H3, H2 a = none → Same H2 H3 → ErrF H3 a C [(f, v), (g, u)] → Q (.ref a) H3
section
variable {X : Cx} {x f g : Str} {C : Addr} {p pos kp kq : Pos} {e e' : Expr} {te te' : TE}
theorem spl1 {pins : List (Addr × Obj)} {σ : L2.St} {H : Hp} {s : Shared} {R : VK} {Z : List Value → Shared → Prop} (ha : PE X e te) (I : Inv X pins σ H s) (h : te σ H R) (hf : ∀ u s1 v H1, Inv X pins σ H1 s1 → RelV v u → R v H1 → Z [u] s1)
    (h1 : starEach [e] X.env = (false, eval e X.env) :: starEach [] X.env := by rfl) : wpAny (model X.prog X.w) X.A (spliced (backTo pos (starEach [e] X.env))) Z X.xe s := by
  rw [h1]
  show wpAny _ _ (spliced ((false, eval e X.env) :: backTo pos (starEach [] X.env))) _ _ s
  apply Calls.spliced_cons
  refine thn (ha.run pins s σ H _ I h) ?_
  rintro u s1 ⟨v, H1, I1, r, q⟩
  exact Calls.spliced_nil (hf u s1 v H1 I1 r q)
theorem spl2 {pins : List (Addr × Obj)} {σ : L2.St} {H : Hp} {s : Shared} {R : V → V → Hp → Prop} {Z : List Value → Shared → Prop} (ha : PE X e te) (hb : PE X e' te') (I : Inv X pins σ H s) (h : te σ H fun v H1 => te' σ H1 fun v' H2 => R v v' H2)
    (hf : ∀ u u' s1 v v' H1, Inv X pins σ H1 s1 → RelV v u → RelV v' u' → R v v' H1 → Z [u, u'] s1)
    (h2 : starEach [e, e'] X.env = (false, eval e X.env) :: starEach [e'] X.env := by rfl) (h1 : starEach [e'] X.env = (false, eval e' X.env) :: starEach [] X.env := by rfl) : wpAny (model X.prog X.w) X.A (spliced (backTo pos (starEach [e, e'] X.env))) Z X.xe s := by
  rw [h2, h1]
  show wpAny _ _ (spliced ((false, eval e X.env) :: ((false, eval e' X.env) :: backTo pos (starEach [] X.env)))) _ _ s
  apply Calls.spliced_cons
  refine thn (ha.run pins s σ H _ I h) ?_
  rintro u s1 ⟨v, H1, I1, r, q⟩
  apply Calls.spliced_cons
  refine thn (hb.run pins s1 σ H1 _ I1 q) ?_
  rintro u' s2 ⟨v', H2, I2, r', q'⟩
  exact Calls.spliced_nil (hf u u' s2 v v' H2 I2 r r' q')
theorem pe_err1 (D : Err1 X.prog X.w X.K X.mg X.base x f C) (hr : Room 2 X.A) (hg : Gl X x) (ha : PE X e te) (hdb : (x == ("__debug__" : Str)) = false := by decide) (h1 : starEach [e] X.env = (false, eval e X.env) :: starEach [] X.env := by rfl)
    (hpl : (backTo pos (starEach [] X.env)).any (·.1) = false := by rfl) : PE X (.Call (.Name x p) [e] [] pos) (tErr1 C f te) := by
  obtain ⟨fI, fd, M, b1, b2⟩ := D.ex
  constructor
  intro pins s σ H Q I h
  apply wpAny_Call_Name_kw
  refine ld_glob I hg M.gC ?_ hdb
  refine PySem.W.callWith_K (h₀ := X.base) I.ok.mod.kin M.o.kC ?_ h1 hpl
  refine spl1 ha I h (fun u s1 v H1 I1 r q => ⟨I1.kIn, ?_⟩) h1
  exact run_mkX (ks := []) (ws := []) (as := [u]) (ts := [v]) M hr (fun s' u' kk => b1 s' u' u kk) I1 (.cons r .nil) rfl (by decide : 1 ≤ 1000) fun a H2 fs z1 z2 z3 z4 => q a H2 z1 z2 ⟨fs, z3, z4⟩
theorem pe_err2 (D : Err2 X.prog X.w X.K X.mg X.base x f g C) (hr : Room 2 X.A) (hg : Gl X x) (ha : PE X e te) (hb : PE X e' te') (hdb : (x == ("__debug__" : Str)) = false := by decide)
    (h2 : starEach [e, e'] X.env = (false, eval e X.env) :: starEach [e'] X.env := by rfl) (h1 : starEach [e'] X.env = (false, eval e' X.env) :: starEach [] X.env := by rfl)
    (hpl : (backTo pos (starEach [e'] X.env)).any (·.1) = false := by rfl) : PE X (.Call (.Name x p) [e, e'] [] pos) (tErr2 C f g te te') := by
  obtain ⟨fI, fd, M, b1, b2⟩ := D.ex
  constructor
  intro pins s σ H Q I h
  apply wpAny_Call_Name_kw
  refine ld_glob I hg M.gC ?_ hdb
  refine PySem.W.callWith_K (h₀ := X.base) I.ok.mod.kin M.o.kC ?_ h2 hpl
  refine spl2 ha hb I h (fun u u' s1 v v' H1 I1 r r' q => ⟨I1.kIn, ?_⟩) h2 h1
  exact run_mkX (ks := []) (ws := []) (as := [u, u']) (ts := [v, v']) M hr (fun s' z kk => b1 s' z u u' kk) I1 (.cons r (.cons r' .nil)) rfl (by decide : 2 ≤ 1000) fun a H2 fs z1 z2 z3 z4 => q a H2 z1 z2 ⟨fs, z3, z4⟩
theorem kws1 {pins : List (Addr × Obj)} {σ : L2.St} {H : Hp} {s : Shared} {R : VK} {Z : List Value → Shared → Prop} {n : Option Str} (ha : PE X e te) (I : Inv X pins σ H s) (h : te σ H R) (hf : ∀ u s1 v H1, Inv X pins σ H1 s1 → RelV v u → R v H1 → Z [u] s1) :
    wpAny (model X.prog X.w) X.A (evalAll ((backToKw pos (keywordEach [⟨n, e, kp⟩] X.env)).map (·.2))) Z X.xe s := by
  show wpAny _ _ (evalAll [do let v ← eval e X.env; standAt pos; pure v]) _ _ s
  apply wpAny_evalAll_cons
  apply wpAny_bind
  refine thn (ha.run pins s σ H _ I h) ?_
  rintro u s1 ⟨v, H1, I1, r, q⟩
  apply wpAny_bind
  apply wpAny_standAt
  apply wpAny_pure
  apply wpAny_evalAll_nil
  exact hf u s1 v H1 I1 r q
theorem kws2 {pins : List (Addr × Obj)} {σ : L2.St} {H : Hp} {s : Shared} {R : V → V → Hp → Prop} {Z : List Value → Shared → Prop} {n n' : Option Str} (ha : PE X e te) (hb : PE X e' te') (I : Inv X pins σ H s) (h : te σ H fun v H1 => te' σ H1 fun v' H2 => R v v' H2)
    (hf : ∀ u u' s1 v v' H1, Inv X pins σ H1 s1 → RelV v u → RelV v' u' → R v v' H1 → Z [u, u'] s1) :
    wpAny (model X.prog X.w) X.A (evalAll ((backToKw pos (keywordEach [⟨n, e, kp⟩, ⟨n', e', kq⟩] X.env)).map (·.2))) Z X.xe s := by
  show wpAny _ _ (evalAll [(do let v ← eval e X.env; standAt pos; pure v), (do let v ← eval e' X.env; standAt pos; pure v)]) _ _ s
  apply wpAny_evalAll_cons
  apply wpAny_bind
  refine thn (ha.run pins s σ H _ I h) ?_
  rintro u s1 ⟨v, H1, I1, r, q⟩
  apply wpAny_bind
  apply wpAny_standAt
  apply wpAny_pure
  apply wpAny_evalAll_cons
  apply wpAny_bind
  refine thn (hb.run pins s1 σ H1 _ I1 q) ?_
  rintro u' s2 ⟨v', H2, I2, r', q'⟩
  apply wpAny_bind
  apply wpAny_standAt
  apply wpAny_pure
  apply wpAny_evalAll_nil
  exact hf u u' s2 v v' H2 I2 r r' q'
theorem pe_err1K (D : Err1 X.prog X.w X.K X.mg X.base x f C) (hr : Room 2 X.A) (hg : Gl X x) (ha : PE X e te) (hdb : (x == ("__debug__" : Str)) = false := by decide) (hall : (backToKw pos (keywordEach [⟨some f, e, kp⟩] X.env)).all (·.1.isSome) = true := by rfl)
    (hks : (backToKw pos (keywordEach [⟨some f, e, kp⟩] X.env)).filterMap (·.1) = [f] := by rfl)
    (hpl : ((backTo pos (starEach [] X.env)).any (·.1) || (backToKw pos (keywordEach [⟨some f, e, kp⟩] X.env)).any (·.1.isNone)) = false := by rfl) : PE X (.Call (.Name x p) [] [⟨some f, e, kp⟩] pos) (tErr1 C f te) := by
  obtain ⟨fI, fd, M, b1, b2⟩ := D.ex
  constructor
  intro pins s σ H Q I h
  apply wpAny_Call_Name_kw
  refine ld_glob I hg M.gC ?_ hdb
  refine PySem.W.callWith_KW0 (h₀ := X.base) I.ok.mod.kin M.o.kC hall ?_ hpl
  refine kws1 ha I h (fun u s1 v H1 I1 r q => ⟨I1.kIn, ?_⟩)
  rw [hks]
  exact run_mkX (ks := [f]) (us := []) (ws := [u]) (as := [u]) (ts := [v]) M hr (fun s' u' kk => b2 s' u' u kk) I1 (.cons r .nil) rfl (by decide : 0 ≤ 1000) fun a H2 fs z1 z2 z3 z4 => q a H2 z1 z2 ⟨fs, z3, z4⟩
/-- by name, the second field ahead of the first -/
theorem pe_err2K (D : Err2 X.prog X.w X.K X.mg X.base x f g C) (hr : Room 2 X.A) (hg : Gl X x) (ha : PE X e te) (hb : PE X e' te') (hdb : (x == ("__debug__" : Str)) = false := by decide) (hall : (backToKw pos (keywordEach [⟨some g, e, kp⟩, ⟨some f, e', kq⟩] X.env)).all (·.1.isSome) = true := by rfl)
    (hks : (backToKw pos (keywordEach [⟨some g, e, kp⟩, ⟨some f, e', kq⟩] X.env)).filterMap (·.1) = [g, f] := by rfl)
    (hpl : ((backTo pos (starEach [] X.env)).any (·.1) || (backToKw pos (keywordEach [⟨some g, e, kp⟩, ⟨some f, e', kq⟩] X.env)).any (·.1.isNone)) = false := by rfl) : PE X (.Call (.Name x p) [] [⟨some g, e, kp⟩, ⟨some f, e', kq⟩] pos) (tErr2R C f g te te') := by
  obtain ⟨fI, fd, M, b1, b2⟩ := D.ex
  constructor
  intro pins s σ H Q I h
  apply wpAny_Call_Name_kw
  refine ld_glob I hg M.gC ?_ hdb
  refine PySem.W.callWith_KW0 (h₀ := X.base) I.ok.mod.kin M.o.kC hall ?_ hpl
  refine kws2 (R := fun u v H2 => ∀ a H3, H2 a = none → Same H2 H3 → ErrF H3 a C [(f, v), (g, u)] → Q (.ref a) H3) ha hb I h (fun u u' s1 v v' H1 I1 r r' q => ⟨I1.kIn, ?_⟩)
  rw [hks]
  exact run_mkX (ks := [g, f]) (us := []) (ws := [u, u']) (as := [u', u]) (ts := [v', v]) M hr (fun s' z kk => b2 s' z u' u kk) I1 (.cons r' (.cons r .nil)) rfl (by decide : 0 ≤ 1000) fun a H2 fs z1 z2 z3 z4 => q a H2 z1 z2 ⟨fs, z3, z4⟩
/-- an error class without an __init__ of its own, called without arguments -/
theorem pe_err0 {C : Addr} {bmB : List Value} {B newId initId : String} (F : ExcBaseFacts B newId initId bmB) (q : PySem.W.excIn X.K C bmB newId = true) (T : OexC X.K C) (gC : X.mg x = some (.ref C)) (hg : Gl X x) (hdb : (x == ("__debug__" : Str)) = false := by decide) :
    PE X (.Call (.Name x p) [] [] pos) (fun _ H Q => ∀ a H2, H a = none → Same H H2 → ErrF H2 a C [] → Q (.ref a) H2) := by
  constructor
  intro pins s σ H Q I h
  apply wpAny_Call_Name_kw
  refine ld_glob I hg gC ?_ hdb
  refine PySem.W.callWith_K0 I.kIn T.kC ?_
  show wpAny _ _ (call (.ref C) []) _ _ _
  obtain ⟨bm, N, nm, qn, bs, hdct, sn, sub, ab, col, dd, k0, k1, k2, k3, k5, mN, hC, hN, hni, tl⟩ := exc_obj I.kIn q
  refine wpAny_call_exc_subT F tl hC hN hni (fun h' a hm => ?_) (by show 0 ≤ sizeLine; exact Nat.zero_le _)
  have hn : H a = none := I.hok.gone hm.new
  obtain ⟨t, ht, _, _⟩ := hm.there
  have ok : ObjOk X.prog X.w (upd H a (exo a C none)) h' a (exo a C none) := exo_ok ht
  exact ⟨.ref a, upd H a (exo a C none), I.laidN hm.keeps hm.new hn ok, rfl, h a _ hn (fun b o z => by rw [upd_ne (ne_of_none z hn)]; exact z) ⟨[], .inl ⟨rfl, upd_same⟩, fun f v z => by cases z⟩⟩
end
/-- e.f of an error -/
def tErrF (K : PySem.W.Frag) (f : Str) (te : TE) : TE := fun σ H Q => te σ H fun x H1 => ∃ (e C : Addr) (l : List (Str × V)) (v : V), x = .ref e ∧ ErrF H1 e C l ∧ XfC K C ∧ PySem.W.findIn K (.ref C) f = some none ∧ l.lookup f = some v ∧ Q v H1
theorem pe_errF {X : Cx} {e : Expr} {te : TE} {pos : Pos} {f : Str} (he : PE X e te) (hb : attributeBase e f X.env (eval e X.env) = eval e X.env := by rfl) : PE X (.Attribute e f pos) (tErrF X.K f te) := by
  constructor
  intro pins s σ H Q I h
  apply attr_of hb
  refine thn (he.run pins s σ H _ I h) ?_
  rintro u s1 ⟨x, H1, I1, rx, e1, C, l, v, rfl, ⟨fs, at_, known⟩, T, no, lk, q⟩
  cases rx
  obtain ⟨ox, od, J, look⟩ := at_.inst I1
  have lk2 := known _ _ lk
  rcases look f with ⟨_, z⟩ | ⟨o, r, rfl, hl, rel⟩
  · rw [lk2] at z
    cases z
  · obtain ⟨u, hu, ru⟩ := RelO.some_of (v := v) (o := r) (by rw [← lk2]; exact rel)
    exact HandSPX.exc_get I1.kIn J T.ga T.gg T.exC (PySem.W.findObj_own T.hdC no rfl (by rw [hl, hu])) (handed_of ru) ⟨v, H1, I1.tok _, ru, q⟩
/-- isinstance(e, c) of an error -/
def rIsE (K : PySem.W.Frag) : List V → Hp → VK → Prop := fun xs H Q => ∃ (e C : Addr) (l : List (Str × V)) (c : V) (cv : Value) (b : Bool), xs = [.ref e, c] ∧ ErrF H e C l ∧ ExcC K C ∧ (∀ u, RelV c u → u = cv) ∧ PySem.W.kitOne K (.ref C) cv = some b ∧ Q (.bl b) H
theorem call_isE {X : Cx} : CallR X (.builtin "isinstance") (rIsE X.K) := by
  intro pins s σ H xs us Q I r h
  obtain ⟨e, C, l, c, cv, b, rfl, ⟨fs, at_, _⟩, cl, hcv, k, q⟩ := h
  exact call_isX pins s σ H _ us Q I r ⟨e, C, fs, c, cv, b, rfl, at_, cl, hcv, k, q⟩
end L2.RV
set_option Elab.async false
set_option linter.all false
set_option maxRecDepth 100000
set_option maxHeartbeats 4000000
/-! Defs of the text that raise, that take further arguments by a star; calls by the name of the one parameter. -/
namespace L2.RV
open PySem PySem.Spec PyProof.Rows
theorem bind_ofN {K : PySem.W.Frag} {x qual : Str} {params : Arguments} {body : List Stmt} {scope : Scope} {f : Addr} {fd : FuncData} {args : Args} {bs : List (Str × Value)} (F : FunD K x qual params body scope [] [] f fd)
    (b : ∀ (kV doc pm : Value) (an : Option Addr) (cdv ct : Value), bindArgs (PySem.W.fnOf x qual params body scope .none kV doc pm an cdv ct) args = pure bs) (s : Shared) : BindsTo s fd args bs := by
  obtain ⟨oc, od, dV, kV, doc, pm, an, cdv, ct, osl, rfl, lk, hcd, hD, hK⟩ := F.ex
  rcases hD with ⟨_, rfl⟩ | ⟨e, _⟩
  · exact .of_eq (b kV doc pm an cdv ct)
  · exact absurd rfl e
/-- the module's def x, with its promise; with one parameter it may be handed by its name -/
structure DefX (CX : CXT) (P : Program) (w : World) (K : PySem.W.Frag) (mg : Str → Option Value) (base : Heap) (x : Str) (k : Nat) (ps : List Str) (sp : Sp) : Prop where
  ex : ∃ f fd, mg x = some (.ref f) ∧ PySem.W.keepIn K (.ref f) = true ∧ Binds K fd ps [] ∧ FnOk P w K mg base CX k f fd ps sp ∧ ∀ p, ps = [p] → ∀ (s : Shared) (u : Value), BindsTo s fd ⟨[], [(p, u)]⟩ [(p, u)]
/-- def x(p, *q) -/
structure DefR (CX : CXT) (P : Program) (w : World) (K : PySem.W.Frag) (mg : Str → Option Value) (base : Heap) (x : Str) (k : Nat) (p : Str) (sp : Sp) : Prop where
  ex : ∃ f, mg x = some (.ref f) ∧ PySem.W.keepIn K (.ref f) = true ∧ FnR P w K mg base CX k f sp ∧
    ∀ (A : Around) (outer : List Env) (s : Shared) (H : Hp) (u : Value) (v : V) (Q : VK) (E : XK), Room k A → Env0 P w K mg base A outer s H → RelV v u → sp [v] H Q E → codeAny (model P w) A (.call (.ref f) ⟨[], [(p, u)]⟩) (CR CX outer P w H s Q E) s
section
variable {P : Program} {w : World} {K : PySem.W.Frag} {mg : Str → Option Value} {base : Heap} {CX : CXT} {k : Nat} {x qual pv p1 : Str} {params : Arguments} {body : List Stmt} {scope : Scope} {f : Addr} {fd : FuncData} {N : List Str} {sp : Sp}
/-- what a body shows of a def with a star -/
theorem starOk (F : FunD K x qual params body scope [] [] f fd) (S : FnScope N [p1, pv] scope) (hCX : StX.CXUp CX)
    (h0 : ∀ (kV doc pm : Value) (an : Option Addr) (cdv ct a : Value), bindArgs (PySem.W.fnOf x qual params body scope .none kV doc pm an cdv ct) ⟨[a], []⟩ = (newTuple [] >>= fun t => pure [(p1, a), (pv, t)]))
    (h1 : ∀ (kV doc pm : Value) (an : Option Addr) (cdv ct a r : Value) (rs : List Value), bindArgs (PySem.W.fnOf x qual params body scope .none kV doc pm an cdv ct) ⟨a :: r :: rs, []⟩ = (newTuple (r :: rs) >>= fun t => pure [(p1, a), (pv, t)]))
    (h2 : ∀ (kV doc pm : Value) (an : Option Addr) (cdv ct a : Value), bindArgs (PySem.W.fnOf x qual params body scope .none kV doc pm an cdv ct) ⟨[], [(p1, a)]⟩ = (newTuple [] >>= fun t => pure [(p1, a), (pv, t)]))
    (hbody : ∀ (cdv : Value) (A : Around) (outer : List Env) (s : Shared) (H : Hp) (vs : List V) (Q : VK) (E : XK), Room k (A.deeper (envOfC qual scope s.heap.objs.size f cdv)) → sp vs H Q E →
      ∃ t, PSs (cxOf CX P w K mg base N qual scope f cdv A outer s H E) body t ∧ t { nx := fun _ H' => Q .non H', rt := Q } (start N vs) H) :
    FnR P w K mg base CX (k + 1) f (fun vs H Q E => ∃ v rest, vs = v :: rest ∧ rest.length ≤ sizeLine ∧ ∀ p, H p = Option.none → sp [v, V.ref p] (upd H p (.tup rest)) Q E) ∧
    ∀ (A : Around) (outer : List Env) (s : Shared) (H : Hp) (u : Value) (v : V) (Q : VK) (E : XK), Room (k + 1) A → Env0 P w K mg base A outer s H → RelV v u → (∀ p, H p = Option.none → sp [v, V.ref p] (upd H p (.tup [])) Q E) →
      codeAny (model P w) A (.call (.ref f) ⟨[], [(p1, u)]⟩) (CR CX outer P w H s Q E) s := by
  obtain ⟨oc, od, dV, kV, doc, pm, an, cdv, ct, osl, rfl, lk, hcd, hD, hK⟩ := F.ex
  rcases hD with ⟨_, rfl⟩ | ⟨e, _⟩
  · refine ⟨?_, ?_⟩
    · refine FnR.imp (StX.fn_star (ps := [p1]) (sp := sp) lk hcd S hCX (StX.bind_star1 (B := fun us => bindArgs _ ⟨us, []⟩) (fun a => h0 kV doc pm an cdv ct a) (fun a r rs => h1 kV doc pm an cdv ct a r rs)) (fun A outer s H vs Q E hr hs => hbody cdv A outer s H vs Q E hr hs)) fun vs H Q E hs => ?_
      obtain ⟨v, rest, rfl, l, q⟩ := hs
      exact ⟨[v], rest, rfl, rfl, l, q⟩
    · intro A outer s H u v Q E hr e0 rv hq
      have hn : H s.heap.objs.size = Option.none := e0.hok.fresh (Nat.le_refl _)
      refine StX.run_bnd lk hcd S hr e0 (G := fun xs H2 => ∃ p, H p = Option.none ∧ xs = [v] ++ [V.ref p] ∧ H2 = upd H p (.tup [])) (fun A' Ex Q' h => ?_) fun s2 H2 xs ⟨p, hp, ex, eH⟩ hr' => ?_
      · rw [h2 kV doc pm an cdv ct u]
        refine wpAny_bind (wpAny_newTuple (wpAny_pure ?_) (by decide))
        have new : ObjOk P w (upd H s.heap.objs.size (.tup [])) (s.heap.push ({ cls := .type "tuple", data := .seq ([] : List Value).toArray } : Obj)) s.heap.objs.size (.tup []) := ⟨by decide, [], .nil, ⟨_, Heap.get?_push_size _ rfl, rfl, _, rfl⟩⟩
        have un := StX.un_laid (fs := frs outer) (s := s) (o := ({ cls := .type "tuple", data := .seq ([] : List Value).toArray } : Obj)) (u := .tup []) hn
        exact h _ _ ([v] ++ [V.ref s.heap.objs.size]) ([u] ++ [Value.ref s.heap.objs.size]) (StX.env0_laid e0 new) un rfl (fun e s' => hCX outer s H _ _ E e s' un (fun b o q => Heap.get?_push_of_some _ q) rfl) (.cons rv (.cons rfl .nil)) rfl ⟨_, hn, rfl, rfl⟩
      · subst ex eH
        exact hbody cdv A outer s2 _ _ Q E hr' (hq p hp)
  · exact absurd rfl e
end
section
variable {X : Cx} {CX : CXT} {k : Nat} {ps : List Str} {sp : Sp} {E : XK} {x p1 : Str} {p pos kp : Pos} {e : Expr} {es : List Expr} {te : TE} {t : TA}
theorem pe_callX (D : DefX CX X.prog X.w X.K X.mg X.base x k ps sp) (hr : Room k X.A) (hg : Gl X x) (hx : Passes CX X E) (ha : PA X (e :: es) t) (hdb : (x == ("__debug__" : Str)) = false := by decide)
    (he : starEach (e :: es) X.env = (false, eval e X.env) :: starEach es X.env := by rfl) (hpl : (backTo pos (starEach es X.env)).any (·.1) = false := by rfl) : PE X (.Call (.Name x p) (e :: es) [] pos) (tCall sp [] E t) := by
  obtain ⟨f, fd, g, kp, b, F, _⟩ := D.ex
  exact pe_call F hr hg g kp b .nil hx ha hdb he hpl
/-- x(p = e) -/
theorem pe_callXK (D : DefX CX X.prog X.w X.K X.mg X.base x k [p1] sp) (hr : Room k X.A) (hg : Gl X x) (hx : Passes CX X E) (ha : PE X e te) (hdb : (x == ("__debug__" : Str)) = false := by decide) (hall : (backToKw pos (keywordEach [⟨some p1, e, kp⟩] X.env)).all (·.1.isSome) = true := by rfl)
    (hks : (backToKw pos (keywordEach [⟨some p1, e, kp⟩] X.env)).filterMap (·.1) = [p1] := by rfl)
    (hpl : ((backTo pos (starEach [] X.env)).any (·.1) || (backToKw pos (keywordEach [⟨some p1, e, kp⟩] X.env)).any (·.1.isNone)) = false := by rfl) : PE X (.Call (.Name x p) [] [⟨some p1, e, kp⟩] pos) (tCall sp [] E (tCons te tNil)) := by
  obtain ⟨f, fd, g, kp', b, F, kw⟩ := D.ex
  constructor
  intro pins s σ H Q I h
  apply wpAny_Call_Name_kw
  refine ld_glob I hg g ?_ hdb
  refine PySem.W.callWith_KW0 (h₀ := X.base) I.ok.mod.kin kp' hall ?_ hpl
  refine kws1 (R := fun v H1 => sp [v] H1 Q E) ha I h (fun u s1 v H1 I1 r q => ⟨I1.kIn, ?_⟩)
  rw [hks]
  refine wpAny_call (codeAny_mono (F.run X.A X.stack s1 H1 ⟨[], [(p1, u)]⟩ [u] [v] Q E hr I1.env0 (kw p1 rfl s1 u) (.cons r .nil) q) fun r s' hq => ?_)
  cases r with
  | error e => exact hx pins σ H1 s1 e s' I1 hq
  | ok fl =>
    cases fl with
    | ret u => exact I1.after hq
    | next => exact False.elim hq
    | brk => exact False.elim hq
    | cont => exact False.elim hq
theorem pe_callR (D : DefR CX X.prog X.w X.K X.mg X.base x k p1 sp) (hr : Room k X.A) (hg : Gl X x) (hx : Passes CX X E) (ha : PA X (e :: es) t) (hdb : (x == ("__debug__" : Str)) = false := by decide)
    (he : starEach (e :: es) X.env = (false, eval e X.env) :: starEach es X.env := by rfl) (hpl : (backTo pos (starEach es X.env)).any (·.1) = false := by rfl) : PE X (.Call (.Name x p) (e :: es) [] pos) (tCall sp [] E t) := by
  obtain ⟨f, g, kp, F, _⟩ := D.ex
  refine ⟨fun pins s σ H Q I h => ?_⟩
  refine wpAny_Call_Name_kw (ld_glob I hg g ?_ hdb)
  refine PySem.W.callWith_K (h₀ := X.base) I.ok.mod.kin kp (thn (ha.run pos pins s σ H _ I h) fun us s1 ⟨vs, H1, I1, r, q⟩ => ⟨I1.kIn, ?_⟩) he hpl
  have q' : sp (vs ++ []) H1 Q E := q
  rw [List.append_nil] at q'
  exact wpAny_call (run_fnR F hr hx I1 r q')
theorem pe_callRK (D : DefR CX X.prog X.w X.K X.mg X.base x k p1 sp) (hr : Room k X.A) (hg : Gl X x) (hx : Passes CX X E) (ha : PE X e te) (hdb : (x == ("__debug__" : Str)) = false := by decide) (hall : (backToKw pos (keywordEach [⟨some p1, e, kp⟩] X.env)).all (·.1.isSome) = true := by rfl)
    (hks : (backToKw pos (keywordEach [⟨some p1, e, kp⟩] X.env)).filterMap (·.1) = [p1] := by rfl)
    (hpl : ((backTo pos (starEach [] X.env)).any (·.1) || (backToKw pos (keywordEach [⟨some p1, e, kp⟩] X.env)).any (·.1.isNone)) = false := by rfl) : PE X (.Call (.Name x p) [] [⟨some p1, e, kp⟩] pos) (tCall sp [] E (tCons te tNil)) := by
  obtain ⟨f, g, kp', F, kw⟩ := D.ex
  constructor
  intro pins s σ H Q I h
  apply wpAny_Call_Name_kw
  refine ld_glob I hg g ?_ hdb
  refine PySem.W.callWith_KW0 (h₀ := X.base) I.ok.mod.kin kp' hall ?_ hpl
  refine kws1 (R := fun v H1 => sp [v] H1 Q E) ha I h (fun u s1 v H1 I1 r q => ⟨I1.kIn, ?_⟩)
  rw [hks]
  refine wpAny_call (codeAny_mono (kw X.A X.stack s1 H1 u v Q E hr I1.env0 r q) fun r s' hq => ?_)
  cases r with
  | error e => exact hx pins σ H1 s1 e s' I1 hq
  | ok fl =>
    cases fl with
    | ret u => exact I1.after hq
    | next => exact False.elim hq
    | brk => exact False.elim hq
    | cont => exact False.elim hq
end
end L2.RV
set_option Elab.async false
set_option linter.all false
set_option maxRecDepth 100000
set_option maxHeartbeats 4000000
/-! Methods of the text, bundled for their callers. -/
namespace L2.RV
open PySem PySem.Spec PyProof.Rows
/-- C's method m, with its promise -/
structure MethX (CX : CXT) (P : Program) (w : World) (K : PySem.W.Frag) (mg : Str → Option Value) (base : Heap) (C : Addr) (m : Str) (k : Nat) (ps : List Str) (sp : Sp) : Prop where
  ex : ∃ f fd, Meth K C m f ∧ Binds K fd ps [] ∧ FnOk P w K mg base CX k f fd ps sp
section
variable {X : Cx} {CX : CXT} {C : Addr} {k : Nat} {ps : List Str} {sp : Sp} {E : XK} {m : Str} {apos pos : Pos} {o e : Expr} {es : List Expr} {ta : TE} {t : TA} {pl : Sem Bool}
theorem pe_mX (D : MethX CX X.prog X.w X.K X.mg X.base C m k ps sp) (c : Cls X.K C) (hr : Room k X.A) (hx : Passes CX X E) (he : PE X o ta) (ha : PA X (e :: es) t)
    (hst : starEach (e :: es) X.env = (false, eval e X.env) :: starEach es X.env := by rfl) (hpl : (backTo pos (starEach es X.env)).any (·.1) = false := by rfl)
    (ht : eval (.Call (.Attribute o m apos) (e :: es) [] pos) X.env = (do
      let ov ← eval o X.env
      standAt apos.atName
      let (f, first) ← holding [ov] (getMethod ov m pl)
      callWith pos f first (backTo pos (starEach (e :: es) X.env)) (backToKw pos (keywordEach [] X.env))) := by rfl) :
    PE X (.Call (.Attribute o m apos) (e :: es) [] pos) (tMeth C m sp [] E ta t) := by
  obtain ⟨f, fd, hm, b, F⟩ := D.ex
  exact pe_meth he c hm F hr b .nil hx ha hst hpl ht
theorem pe_mX0 (D : MethX CX X.prog X.w X.K X.mg X.base C m k ps sp) (c : Cls X.K C) (hr : Room k X.A) (hx : Passes CX X E) (he : PE X o ta)
    (ht : eval (.Call (.Attribute o m apos) [] [] pos) X.env = (do
      let ov ← eval o X.env
      standAt apos.atName
      let (f, first) ← holding [ov] (getMethod ov m pl)
      callWith pos f first (backTo pos (starEach [] X.env)) (backToKw pos (keywordEach [] X.env))) := by rfl) :
    PE X (.Call (.Attribute o m apos) [] [] pos) (tMeth C m sp [] E ta tNil) := by
  obtain ⟨f, fd, hm, b, F⟩ := D.ex
  exact pe_meth0 he c hm F hr b .nil hx ht
end
theorem pass_CX0 {X : Cx} : Passes CX0 X E0 := fun _ _ _ _ _ _ _ h => h.elim
end L2.RV
namespace L2.RV
open PySem PySem.Spec PyProof.Rows
/-- the class x, made with some arguments, dvs its further defaults -/
structure MakeX (CX : CXT) (P : Program) (w : World) (K : PySem.W.Frag) (mg : Str → Option Value) (base : Heap) (x : Str) (C : Addr) (k : Nat) (ps : List Str) (dvs : List V) (sp : Sp) : Prop where
  ex : ∃ f fd ds, Mk K C f ∧ mg x = some (.ref C) ∧ Binds K fd ps ds ∧ Vals dvs ds ∧ FnOk P w K mg base CX k f fd ps sp
theorem pe_mkX {X : Cx} {CX : CXT} {x : Str} {C : Addr} {k : Nat} {ps : List Str} {dvs : List V} {sp : Sp} {E : XK} {p pos : Pos} {e : Expr} {es : List Expr} {t : TA} (D : MakeX CX X.prog X.w X.K X.mg X.base x C k ps dvs sp) (hr : Room (k + 1) X.A) (hg : Gl X x) (hx : Passes CX X E)
    (ha : PA X (e :: es) t) (hdb : (x == ("__debug__" : Str)) = false := by decide) (he : starEach (e :: es) X.env = (false, eval e X.env) :: starEach es X.env := by rfl) (hpl : (backTo pos (starEach es X.env)).any (·.1) = false := by rfl) :
    PE X (.Call (.Name x p) (e :: es) [] pos) (tMake C sp dvs E t) := by
  obtain ⟨f, fd, ds, M, hm, b, v, F⟩ := D.ex
  exact pe_make M F hr hg hm b v hx ha hdb he hpl
end L2.RV
namespace L2.RV
open PySem PySem.Spec PyProof.Rows
/-- the module's def x, dvs its further defaults -/
structure DefXD (CX : CXT) (P : Program) (w : World) (K : PySem.W.Frag) (mg : Str → Option Value) (base : Heap) (x : Str) (k : Nat) (ps : List Str) (dvs : List V) (sp : Sp) : Prop where
  ex : ∃ f fd ds, mg x = some (.ref f) ∧ PySem.W.keepIn K (.ref f) = true ∧ Binds K fd ps ds ∧ Vals dvs ds ∧ FnOk P w K mg base CX k f fd ps sp
theorem pe_callXD {X : Cx} {CX : CXT} {x : Str} {k : Nat} {ps : List Str} {dvs : List V} {sp : Sp} {E : XK} {p pos : Pos} {e : Expr} {es : List Expr} {t : TA} (D : DefXD CX X.prog X.w X.K X.mg X.base x k ps dvs sp) (hr : Room k X.A) (hg : Gl X x) (hx : Passes CX X E)
    (ha : PA X (e :: es) t) (hdb : (x == ("__debug__" : Str)) = false := by decide) (he : starEach (e :: es) X.env = (false, eval e X.env) :: starEach es X.env := by rfl) (hpl : (backTo pos (starEach es X.env)).any (·.1) = false := by rfl) :
    PE X (.Call (.Name x p) (e :: es) [] pos) (tCall sp dvs E t) := by
  obtain ⟨f, fd, ds, g, kp, b, v, F⟩ := D.ex
  exact pe_call F hr hg g kp b v hx ha hdb he hpl
end L2.RV
set_option Elab.async false
set_option linter.all false
set_option maxRecDepth 100000
set_option maxHeartbeats 4000000
/-! The pen of a law: its list of numbers, how many draws were made, what is left of a great one. -/
namespace L2.RV
open PySem PySem.Spec PyProof.Rows
structure PenAt (H : Hp) (p l : Addr) (ns : List Int) (at_ rest : Int) : Prop where
  pen : H p = some (.lst [.ref l, .int at_, .int rest])
  nums : H l = some (.lst (ns.map V.int))
  ne : l ≠ p
  few : ns.length ≤ 63
  from0 : 0 ≤ at_
  rest0 : 0 ≤ rest
theorem PenAt.same {H H' : Hp} {p l : Addr} {ns : List Int} {a r : Int} (x : PenAt H p l ns a r) (s : Same H H') : PenAt H' p l ns a r := ⟨s _ _ x.pen, s _ _ x.nums, x.ne, x.few, x.from0, x.rest0⟩
/-- _law_pen(script) -/
def spPen (K : PySem.W.Frag) : Sp := fun vs H Q _ => ∃ (a : Addr) (ns : List Int), vs = [.ref a] ∧ SqL K H a (ns.map V.int) ∧ ns.length ≤ 63 ∧ ∀ H' p l ns', Same H H' → H p = none → PenAt H' p l ns' 0 0 → Q (.ref p) H'
/-- _law_draw(pen, many) -/
def spDraw : Sp := fun vs H Q _ => ∃ (p l : Addr) (ns : List Int) (a r m : Int), vs = [.ref p, .int m] ∧ PenAt H p l ns a r ∧ a ≤ 100000 ∧ 0 < m ∧ m < 1073741824 ∧
  ∀ H' a' r' d, Keep p H H' → PenAt H' p l ns a' r' → a' ≤ a + 1 → 0 ≤ d → d < m → Q (.int d) H'
/-- _law_pick(pen, some) -/
def spPick : Sp := fun vs H Q _ => ∃ (p l q : Addr) (ns : List Int) (a r : Int) (xs : List V), vs = [.ref p, .ref q] ∧ PenAt H p l ns a r ∧ a ≤ 100000 ∧ H q = some (.lst xs) ∧ q ≠ p ∧ 0 < xs.length ∧ xs.length < 1000000 ∧
  ∀ H' a' r' v, Keep p H H' → PenAt H' p l ns a' r' → a' ≤ a + 1 → v ∈ xs → Q v H'
theorem rd_ix {K : PySem.W.Frag} {H : Hp} {p : Addr} {xs : List V} {k : Int} {v : V} {Q : VK} (h : H p = some (.lst xs)) (e : atI xs k = some v) (q : Q v H) : rIx K (.ref p) (.int k) H Q := .inl ⟨p, xs, k, v, rfl, rfl, SqL.of h, e, q⟩
theorem rd_set {H : Hp} {p : Addr} {xs : List V} (ys : List V) {k : Int} {j : Nat} {v : V} {Q : Hp → Prop} (h : H p = some (.lst xs)) (e : ixN xs.length k = some j) (w : xs.set j v = ys) (q : Q (upd H p (.lst ys))) : rSetL (.ref p) (.int k) v H Q := ⟨p, xs, k, j, rfl, rfl, h, e, by rw [w]; exact q⟩
theorem cut_ints (ns : List Int) (lo hi : Option Int) : ∃ ms : List Int, cutV (ns.map V.int) lo hi = ms.map V.int ∧ ms.length ≤ ns.length := by
  refine ⟨(ns.drop (HT.sIx (ns.map V.int).length 0 lo)).take (HT.sIx (ns.map V.int).length (ns.map V.int).length hi - HT.sIx (ns.map V.int).length 0 lo), ?_, ?_⟩
  · unfold cutV
    rw [List.map_take, List.map_drop]
  · rw [List.length_take, List.length_drop]
    omega
theorem atI_mod {ns : List Int} {a : Int} (h : 0 < ns.length) (h0 : 0 ≤ a) : ∃ c, atI (ns.map V.int) (a % (ns.map V.int).length) = some (.int c) := by
  have hl : ((ns.map V.int).length : Int) = (ns.length : Int) := by rw [List.length_map]
  have b0 : 0 ≤ a % (ns.length : Int) := Int.emod_nonneg _ (by omega)
  have b1 : a % (ns.length : Int) < (ns.length : Int) := Int.emod_lt_of_pos _ (by omega)
  obtain ⟨j, hj⟩ : ∃ j : Nat, a % (ns.length : Int) = (j : Int) := ⟨_, (Int.toNat_of_nonneg b0).symm⟩
  have lt : j < ns.length := by omega
  refine ⟨ns[j], ?_⟩
  rw [hl, hj]
  exact atI_nat (by rw [List.getElem?_map, List.getElem?_eq_getElem lt]; rfl)
theorem no_ints {ns : List Int} : PyData.eqv (.list (ns.map PyData.int)) (.list []) = ns.isEmpty := by
  cases ns with
  | nil => rfl
  | cons n ns => rfl
theorem mul_small {x y b c : Int} (x0 : 0 ≤ x) (x1 : x ≤ b) (y0 : 0 ≤ y) (y1 : y ≤ c) : 0 ≤ x * y ∧ x * y ≤ b * c :=
  ⟨Int.mul_nonneg x0 y0, Int.le_trans (Int.mul_le_mul_of_nonneg_right x1 y0) (Int.mul_le_mul_of_nonneg_left y1 (Int.le_trans x0 x1))⟩
theorem cpow5 {x : Int} (x0 : 0 ≤ x) (x1 : x ≤ 1000000000000) : CPow x 5 := ⟨by decide, by decide, by omega⟩
theorem cpow3 {y u v a c : Int} (y0 : 0 ≤ y) (y1 : y ≤ 2147483648) (u0 : 0 ≤ u) (u1 : u ≤ 1048576) (v0 : 0 ≤ v) (v1 : v ≤ 1099511627776) (a0 : 0 ≤ a) (a1 : a ≤ 100000) (c0 : 0 ≤ c) (c1 : c ≤ 1000000) : CPow (y * u + v * a + c) 3 := by
  have z1 := mul_small y0 y1 u0 u1
  have z2 := mul_small v0 v1 a0 a1
  exact ⟨by decide, by decide, by omega⟩
theorem cmulL {x y : Int} (x0 : 0 ≤ x) (x1 : x ≤ 1000000000000000000) : CMul x y := .inl ⟨by omega, by omega⟩
theorem e18 : (10 : Int) ^ (18 : Int).toNat = 1000000000000000000 := by decide
theorem c18 : CPow 10 18 := ⟨by decide, by decide, by decide⟩
end L2.RV
set_option Elab.async false
set_option linter.all false
set_option maxRecDepth 100000
set_option maxHeartbeats 4000000
/-! Defs that make lambdas, and the def that is handed one; what stays where tables grow. -/
namespace L2.RV
open PySem PySem.Spec PyProof.Rows
section
variable {P : Program} {w : World} {K : PySem.W.Frag} {mg : Str → Option Value} {base : Heap} {x qual : Str} {params : Arguments} {body : List Stmt} {scope : Scope} {dvs : List V} {kws : List (Str × V)} {fd : FuncData}
/-- as okG; the code object is the one that the def's place tells -/
theorem okGC {CX : CXT} {N ps : List Str} {k : Nat} {sp : Sp} {p : He.Defn} (F : FunD K x qual params body scope dvs kws (He.fAd K p) fd) (S : FnScope N ps scope) (many : ∀ vs H Q E, sp vs H Q E → vs.length = ps.length)
    (hb : ∀ (A : Around) (outer : List Env) (s : Shared) (H : Hp) (vs : List V) (Q : VK) (E : XK), A.guards = some [] → Room k (A.deeper (envOfC qual scope s.heap.objs.size (He.fAd K p) (.ref (He.codeOf K p)))) → sp vs H Q E →
      ∃ t, PSs (cxOf CX P w K mg base N qual scope (He.fAd K p) (.ref (He.codeOf K p)) A outer s H E) body t ∧ t { nx := fun _ H' => Q .non H', rt := Q } (start N vs) H) : FnG P w K mg base CX (k + 1) (He.fAd K p) fd ps sp := by
  obtain ⟨oc, od, dV, kV, doc, pm, an, cdv, ct, osl, rfl, lk, hcd, _, _⟩ := F.ex
  obtain ⟨c, rfl⟩ := He.codeIn_ref hcd
  have e : He.codeOf K p = c := He.codeOf_eq lk rfl
  subst e
  exact fnG_of lk hcd S many fun A outer s H vs Q E hg hr hsp => hb A outer s H vs Q E hg hr hsp
end
/-- the def x of one parameter a that is handed a lambda -/
structure LamD (K : PySem.W.Frag) (mg : Str → Option Value) (x a : Str) (st : Stmt) : Prop where
  ex : ∃ (g : Addr) (oc : Value) (od : Option Addr) (pg : Arguments) (dV kV doc pm : Value) (an : Option Addr) (cdv ct : Value) (osl : Array (Option Value)), mg x = some (.ref g) ∧ PySem.W.keepIn K (.ref g) = true ∧
    K.lookup g = some ⟨oc, od, .func (PySem.W.fnOf x x pg (defBody st) (defScope st) dV kV doc pm an cdv ct), osl⟩ ∧ PySem.W.codeIn K cdv x = true ∧ Binds K (PySem.W.fnOf x x pg (defBody st) (defScope st) dV kV doc pm an cdv ct) [a] []
theorem lamD_of {K : PySem.W.Frag} {mg : Str → Option Value} {x a : Str} {st : Stmt} {params : Arguments} {f : Addr} {fd : FuncData} (F : FunD K x x params (defBody st) (defScope st) [] [] f fd) (hm : mg x = some (.ref f)) (b : Binds K fd [a] []) : LamD K mg x a st := by
  obtain ⟨oc, od, dV, kV, doc, pm, an, cdv, ct, osl, rfl, lk, hcd, _, _⟩ := F.ex
  exact ⟨f, oc, od, params, dV, kV, doc, pm, an, cdv, ct, osl, hm, F.kp, lk, hcd, b⟩
/-- x(lambda: body) -/
theorem pe_lamX {X : Cx} {T : List (Addr × Str)} {TT : (XK → Hp → VK → Prop) → Hp → VK → Prop} {x a : Str} {st : Stmt} {c P : Addr} {k : Nat} {Ng : List Str} {params : Arguments} {body : Expr} {scope : Scope} {t : XK → TE} {p lpos pos : Pos} (D : LamD X.K X.mg x a st) (hg : Gl X x)
    (Sg : FnScope Ng [a] (defScope st)) (hNg : Ng[0]? = some a) (hva : Vis (defScope st) a) (hG : ∀ (g : Addr) (cdg : Value), LamX.GivesTo X Ng x (defScope st) g cdg (defBody st) a (X.env.qual ++ "<lambda>") TT)
    (TB : LamX.TabB X.base X.mg c P) (hcode : X.env.code = .ref c) (hmT : (P, X.env.qual ++ "<lambda>") ∈ T) (hu : ∀ p ∈ T, p.1 = P → p.2 = X.env.qual ++ "<lambda>") (hr : Room (k + 2) X.A) (L : LamX.LamS X.env.scope scope) (hdef : defaultsOf params X.env = ([], []))
    (hbind : ∀ (q : Str) (cl : List (Str × Addr)) (pm cv ctv : Value), bindArgs (PySem.W.kla_fn "<lambda>" q params body scope cl pm cv ctv) ⟨[], []⟩ = pure [])
    (hbody : ∀ (A : Around) (outer : List Env) (s : Shared) (H : Hp) (E : XK) (f c' : Addr), Room k (A.deeper (LamX.lamEnv X scope s.heap.objs.size f c')) → PE (LamX.lamCx X A outer s H E scope f c') body (t E))
    (hdb : (x == ("__debug__" : Str)) = false := by decide) (hd : (a == ("__debug__" : Str)) = false := by decide) (hcd : (a == ("__classdict__" : Str)) = false := by decide) :
    PE X (.Call (.Name x p) [.Lambda params body scope lpos] [] pos) (LamX.tLam T TT t) := by
  obtain ⟨g, oc, od, pg, dV, kV, doc, pm, an, cdv, ct, osl, hm, kp, lk, hcg, b⟩ := D.ex
  exact LamX.pe_lamcall hg hm kp lk hcg b Sg hNg hva (hG g cdv) TB hcode hmT hu hr L hdef hbind hbody hdb hd hcd
/-! ### what stays -/
/-- all but the list at p and the tables stays -/
def KeepN (p : Addr) (H H' : Hp) : Prop := ∀ b o, b ≠ p → H b = some o → (∀ ps, o ≠ .tbl ps) → H' b = some o
theorem KeepN.refl {p : Addr} {H : Hp} : KeepN p H H := fun _ _ _ h _ => h
theorem KeepN.trans {p : Addr} {H H1 H2 : Hp} (a : KeepN p H H1) (b : KeepN p H1 H2) : KeepN p H H2 := fun c o n h z => b c o n (a c o n h z) z
theorem KeepN.ofExt {p : Addr} {H H' : Hp} (e : LamX.ExtN H H') : KeepN p H H' := fun b o _ h z => e b o h z
theorem KeepN.same {p : Addr} {H H' : Hp} (e : Same H H') : KeepN p H H' := fun b o _ h _ => e b o h
theorem Keep.n {p : Addr} {H H' : Hp} (e : Keep p H H') : KeepN p H H' := fun b o n h _ => e b o n h
theorem ext_same {H H' : Hp} (e : Same H H') : LamX.ExtN H H' := LamX.ExtN.of e
theorem tabs_same {TS : List (Addr × Str)} {H H' : Hp} (t : LamX.Tabs TS H) (e : Same H H') : LamX.Tabs TS H' := t.ext e
theorem tabs_keep {TS : List (Addr × Str)} {p : Addr} {xs : List V} {H H' : Hp} (t : LamX.Tabs TS H) (hp : H p = some (.lst xs)) (e : Keep p H H') : LamX.Tabs TS H' := fun P hP => by
  obtain ⟨ps, h1, h2, h3⟩ := t P hP
  refine ⟨ps, e _ _ (fun z => ?_) h1, h2, fun pos cv hc => ?_⟩
  · rw [z, hp] at h1
    cases h1
  · obtain ⟨c, e1, e2⟩ := h3 pos cv hc
    refine ⟨c, e1, e _ _ (fun z => ?_) e2⟩
    rw [z, hp] at e2
    unfold LamX.CodeO at e2
    cases e2
end L2.RV
set_option Elab.async false
set_option linter.all false
set_option maxRecDepth 100000
set_option maxHeartbeats 4000000
/-! The hook with the text's dicts, and its tuples. -/
namespace L2.RV
open PySem PySem.Spec PyProof.Rows
/-- a dict of the top: its name, its keys -/
abbrev TabN : Type := Str × List Str
def obsRT (chk : PySem.W.Frag → Bool) (fn : List He.DefD) (ts : List TabN) (K : PySem.W.Frag) : He.AlT := (obsR chk fn K, ts.map fun t => He.dicW K (He.ga K t.1))
def valRT (fn : List He.DefD) (ts : List TabN) (w : World) : He.AlT := (He.valD fn, ts.map fun t => some (He.keysIn w.params t.2))
def SaysRT (chk : PySem.W.Frag → Bool) (fn : List He.DefD) (ts : List TabN) (w : World) (K : PySem.W.Frag) : Prop := obsRT chk fn ts K = valRT fn ts w
def obsRTG (n : Nat) (chk : PySem.W.Frag → Bool) (fn : List He.DefD) (ts : List TabN) (g : Addr → Option Obj) : He.AlT := obsRT chk fn ts (He.frG g (He.asD g n))
def hookRT (n : Nat) (chk : PySem.W.Frag → Bool) (fn : List He.DefD) (ts : List TabN) : PySem.W.Hook where
  α := He.AlT
  obs := fun s => obsRTG n chk fn ts s.heap.get?
  val := fun w => valRT fn ts w
  says := fun w h => ∃ K : PySem.W.Frag, K.In h ∧ SaysRT chk fn ts w K
  of := fun _ _ e => ⟨_, He.frG_in, e⟩
  keeps := fun _ _ _ ⟨K, hK, c⟩ k => ⟨K, PySem.W.Frag.In.keeps hK k, c⟩
theorem obsRTG_eq {n : Nat} {chk : PySem.W.Frag → Bool} {fn : List He.DefD} {ts : List TabN} {g : Addr → Option Obj} {s : Shared} (h : ∀ a, g a = s.heap.get? a) : obsRTG n chk fn ts g = (hookRT n chk fn ts).obs s := by
  obtain rfl : g = s.heap.get? := funext h
  rfl
section
variable {chk : PySem.W.Frag → Bool} {fn : List He.DefD} {ts : List TabN} {w : World} {K : PySem.W.Frag}
theorem SaysRT.d (c : SaysRT chk fn ts w K) : SaysR chk fn K := congrArg (fun z : He.AlT => z.1) c
theorem SaysRT.tab (c : SaysRT chk fn ts w K) (i : Nat) {t : TabN} (h : ts[i]? = some t := by rfl) : ∃ es n, KDict K w (He.ga K t.1) es n := by
  have e : ts.map (fun t => He.dicW K (He.ga K t.1)) = ts.map fun t => some (He.keysIn w.params t.2) := congrArg (fun z : He.AlT => z.2) c
  have e2 := congrArg (fun l => l[i]?) e
  simp only [List.getElem?_map, h, Option.map_some, Option.some.injEq] at e2
  exact He.dicW_ok e2
end
/-- values as written ones -/
def relsB (K : PySem.W.Frag) : List He.Dv → List Value → Bool
  | [], [] => true
  | d :: ds, u :: us => He.relB (d.v K) u && relsB K ds us
  | _, _ => false
theorem relsB_ok {K : PySem.W.Frag} : ∀ {ds : List He.Dv} {us : List Value}, relsB K ds us = true → Vals (ds.map (He.Dv.v K)) us
  | [], [], _ => .nil
  | d :: ds, u :: us, h => by
    obtain ⟨h1, h2⟩ := ba2 h
    exact .cons (He.relB_ok h1) (relsB_ok h2)
  | [], _ :: _, h => by cases h
  | _ :: _, [], h => by cases h
/-- the module's name x stands for this tuple -/
def tupB (K : PySem.W.Frag) (p : Str × List He.Dv) : Bool := match K.lookup (He.ga K p.1) with
  | some ⟨.type c, none, .seq its _, _⟩ => decide (c = "tuple") && (Nat.ble its.size 1000 && relsB K p.2 its.toList)
  | _ => false
theorem tupB_ok {K : PySem.W.Frag} {p : Str × List He.Dv} {H : Hp} (h : tupB K p = true) : SqT K H (He.ga K p.1) (p.2.map (He.Dv.v K)) := by
  unfold tupB at h
  split at h
  · rename_i c its n sl look
    obtain ⟨h1, h⟩ := ba2 h
    obtain ⟨h2, h3⟩ := ba2 h
    obtain rfl := of_decide_eq_true h1
    exact .inr ⟨_, its, n, look, rfl, rfl, Nat.le_trans (Nat.le_of_ble_eq_true h2) (by decide), relsB_ok h3⟩
  · cases h
theorem tupB_ty {K : PySem.W.Frag} {p : Str × List He.Dv} {H : Hp} (h : tupB K p = true) : tyV K "tuple" (.ref (He.ga K p.1)) H := by
  unfold tupB at h
  split at h
  · rename_i c its n sl look
    obtain ⟨h1, h⟩ := ba2 h
    obtain rfl := of_decide_eq_true h1
    exact .inr (.inl ⟨rfl, _, look, rfl, rfl⟩)
  · cases h
end L2.RV
set_option Elab.async false
set_option linter.all false
set_option maxRecDepth 100000
set_option maxHeartbeats 4000000
/-! The end of a law's proof where defs make lambdas: the tables of their code objects are empty at first, and grow. -/
namespace L2.RV
open PySem PySem.Spec PyProof.Rows
abbrev noTab : Obj := { cls := .none, data := .fields #[] }
/-- what is tracked at first: the tables of ts, and the script's list at a where it is not K's -/
def seed (ts : List Addr) (own : Bool) (a : Addr) (vs : List Value) (ns : List Int) : Hp := fun b =>
  if b ∈ ts then some (.tbl #[]) else if b = a ∧ own = true then some (.frz (listObj vs) (.lst (ns.map V.int))) else none
section
variable {ts : List Addr} {own : Bool} {a b : Addr} {vs : List Value} {ns : List Int}
theorem seed_tab (h : b ∈ ts) : seed ts own a vs ns b = some (.tbl #[]) := if_pos h
theorem seed_own (n : a ∉ ts) : seed ts true a vs ns a = some (.frz (listObj vs) (.lst (ns.map V.int))) := by
  unfold seed
  rw [if_neg n, if_pos ⟨rfl, rfl⟩]
theorem seed_case {u : HO} (h : seed ts own a vs ns b = some u) : (b ∈ ts ∧ u = .tbl #[]) ∨ (b ∉ ts ∧ b = a ∧ own = true ∧ u = .frz (listObj vs) (.lst (ns.map V.int))) := by
  unfold seed at h
  by_cases m : b ∈ ts
  · rw [if_pos m] at h
    exact .inl ⟨m, (Option.some.inj h).symm⟩
  · rw [if_neg m] at h
    by_cases c : b = a ∧ own = true
    · rw [if_pos c] at h
      exact .inr ⟨m, c.1, c.2, (Option.some.inj h).symm⟩
    · rw [if_neg c] at h
      cases h
end
theorem lawTG {P : Program} {w : World} {K : PySem.W.Frag} {mg mb : Str → Option Value} {CX : CXT} {k : Nat} {fa a : Addr} {tf : List (Addr × Addr)} {fd : FuncData} {x : Str} {sp : Sp} {s : Shared} {vs : List Value} {ns : List Int}
    (KX : K.In s.heap) (G : s.heap.Ns mainGlobals mg) (B : s.heap.Ns builtinsNs mb) (hB : ∀ x : Str, x ≠ "__name__" → mb x = bootBuiltins x) (lim : s.heap.NoLimit) (gens : s.gens = #[])
    (blank : ∀ t ∈ tf, s.heap.get? t.2 = some noTab) (out : ∀ t ∈ tf, K.lookup t.2 = none) (code : ∀ t ∈ tf, PySem.W.CodeHd s.heap t.1 t.2)
    (mod : ∃ (bm : Addr) (ob : Obj), mg "__builtins__" = some (.ref bm) ∧ bm ≠ builtinsNs ∧ s.heap.get? bm = some ob ∧ ob.cls = .type "module" ∧ ob.dict = some builtinsNs ∧ ob.data = .plain)
    (at_ : s.heap.get? a = some (listObj vs)) (areI : IntsAre vs ns) (few : ns.length ≤ sizeLine) (room : Room k callerA)
    (F : ∀ base : Heap, K.In base → base.Ns mainGlobals mg → (∀ t ∈ tf, LamX.TabB base mg t.1 t.2) → FnG P w K mg base CX k fa fd [x] sp) (bind : ∀ (s : Shared) (u : Value), BindsTo s fd ⟨[u], []⟩ [(x, u)])
    (hsp : ∀ H : Hp, (∀ t ∈ tf, H t.2 = some (.tbl #[])) → SqL K H a (ns.map V.int) → sp [.ref a] H (fun v _ => v = .bl true) fun _ _ _ => False)
    (no : ∀ H e s', CX [] H s (fun _ _ _ => False) e s' → False) :
    codeAny (model P w) callerA (.call (.ref fa) ⟨[.ref a], []⟩) (fun r s' => r = .ok (.ret (.bool true)) ∧ OldK s.heap s'.heap ∧ s'.os = s.os ∧ AllBare s'.gens) s := by
  have vals : Vals (ns.map V.int) vs := vals_ints areI
  have short : (ns.map V.int).length ≤ sizeLine := by rw [List.length_map]; exact few
  have size : vs.toArray.size ≤ sizeLine := by rw [List.size_toArray, areI.length]; exact few
  let T := tf.map (·.2)
  have inT : ∀ t ∈ tf, t.2 ∈ T := fun t m => List.mem_map_of_mem m
  have blankT : ∀ b ∈ T, s.heap.get? b = some noTab := fun b m => by
    obtain ⟨t, mt, rfl⟩ := List.mem_map.mp m
    exact blank t mt
  have outT : ∀ b ∈ T, K.lookup b = none := fun b m => by
    obtain ⟨t, mt, rfl⟩ := List.mem_map.mp m
    exact out t mt
  have aT : a ∉ T := fun m => by
    have z := at_.symm.trans (blankT a m)
    injection z with z
    injection z with _ _ z
    cases z
  have main : ∀ own : Bool, (own = true → K.lookup a = none) → SqL K (seed T own a vs ns) a (ns.map V.int) →
      codeAny (model P w) callerA (.call (.ref fa) ⟨[.ref a], []⟩) (fun r s' => r = .ok (.ret (.bool true)) ∧ OldK s.heap s'.heap ∧ s'.os = s.os ∧ AllBare s'.gens) s := by
    intro own free seq
    have stands : HOk P w (seed T own a vs ns) s.heap := by
      intro b u e
      rcases seed_case e with ⟨m, rfl⟩ | ⟨_, rfl, _, rfl⟩
      · exact blankT b m
      · exact ⟨at_, short, vs, _, vals, at_⟩
    have hidden : ∀ {b : Addr} {o : Obj}, s.heap.get? b = some o → o ≠ noTab → o ≠ listObj vs → (hidT s.heap (seed T own a vs ns)).get? b = some o := by
      intro b o e n1 n2
      apply hidT_get e
      cases q : seed T own a vs ns b with
      | none => rfl
      | some u =>
        rcases seed_case q with ⟨m, _⟩ | ⟨_, rfl, _⟩
        · exact absurd (Option.some.inj (e.symm.trans (blankT b m))) n1
        · exact absurd (Option.some.inj (e.symm.trans at_)) n2
    have spaces : ∀ {b : Addr} {m : Str → Option Value}, s.heap.Ns b m → (hidT s.heap (seed T own a vs ns)).Ns b m := by
      rintro b m ⟨o, es, ep, e, d, more⟩
      refine ⟨o, es, ep, hidden e (fun z => ?_) (fun z => ?_), d, more⟩ <;> rw [z] at d <;> cases d
    have inK : K.In (hidT s.heap (seed T own a vs ns)) := by
      intro b o e
      apply hidT_get (KX b o e)
      cases q : seed T own a vs ns b with
      | none => rfl
      | some u =>
        rcases seed_case q with ⟨m, _⟩ | ⟨_, rfl, y, _⟩
        · rw [outT b m] at e
          cases e
        · rw [free y] at e
          cases e
    have tabB : ∀ t ∈ tf, LamX.TabB (hidT s.heap (seed T own a vs ns)) mg t.1 t.2 := by
      intro t mt
      refine ⟨?_, ?_, ?_⟩
      · obtain ⟨o, us, f1, f2, f3, f4, f5, f6, f7, e, r1, r2, rest⟩ := code t mt
        refine ⟨o, us, f1, f2, f3, f4, f5, f6, f7, hidden e (fun z => ?_) (fun z => ?_), r1, r2, rest⟩
        · rw [z] at r1
          cases r1
        · rw [z] at r2
          cases r2
      · obtain ⟨bm, ob, m1, m2, m3, m4, m5, m6⟩ := mod
        refine ⟨bm, ob, m1, m2, fun z => ?_, fun z => ?_, hidden m3 (fun z => ?_) (fun z => ?_), m4, m5, m6⟩
        · obtain ⟨o, es, ep, e, d, _⟩ := G
          rw [z, e] at m3
          injection m3 with m3
          rw [m3, m6] at d
          cases d
        · rw [z, blank t mt] at m3
          injection m3 with m3
          rw [← m3] at m4
          cases m4
        · rw [z] at m4
          cases m4
        · rw [z] at m6
          cases m6
      · intro z
        obtain ⟨o, es, ep, e, d, _⟩ := G
        rw [z, blank t mt] at e
        injection e with e
        rw [← e] at d
        cases d
    have entry : Env0 P w K mg (hidT s.heap (seed T own a vs ns)) callerA [] s (seed T own a vs ns) := by
      refine ⟨rfl, ⟨inK, spaces G, ⟨mb, spaces B, hB⟩, ?_⟩, fun b o e => of_hidT e, Nat.le_of_eq (hidT_size _ _), trivial, fun b hb => ?_, stands, .of_eq gens⟩
      · obtain ⟨mc, h1, h2⟩ := lim
        exact ⟨mc, spaces h1, h2⟩
      · exact absurd (show b ∈ ([] : List Addr) from hb) (by simp)
    refine codeAny_mono ((F _ inK (spaces G) tabB).go callerA [] s _ ⟨[.ref a], []⟩ [.ref a] [.ref a] _ _ rfl room entry (bind s (.ref a)) (.cons rfl .nil) (hsp _ (fun t mt => seed_tab (inT t mt)) seq)) ?_
    intro r s' h
    match r, h with
    | .error e, h => exact (no _ e s' h).elim
    | .ok .next, h => exact h.elim
    | .ok .brk, h => exact h.elim
    | .ok .cont, h => exact h.elim
    | .ok (.ret u), h =>
      obtain ⟨v, H', os, bare, un, stands', rel, q⟩ := h
      have q' : v = .bl true := q
      subst q'
      obtain rfl : u = Value.bool true := rel
      have grown : ∀ b ∈ T, ∃ more : Array Value, s'.heap.get? b = some { cls := .none, data := .fields more } := by
        intro b m
        obtain ⟨more, z⟩ := un.tbls b #[] (seed_tab m)
        exact ⟨_, stands' b _ z⟩
      have stay : ∀ b o, b ∉ T → s.heap.get? b = some o → s'.heap.get? b = some o := by
        intro b o m e
        cases q : seed T own a vs ns b with
        | none => exact un.keep b o e q (fun z => absurd (show b ∈ ([] : List Addr) from z) (by simp)) (by simp)
        | some u =>
          rcases seed_case q with ⟨m', _⟩ | ⟨_, rfl, _, rfl⟩
          · exact absurd m' m
          · obtain ⟨e2, _⟩ := stands' b _ (un.frzs b _ _ q)
            rw [at_] at e
            cases e
            exact e2
      refine ⟨rfl, ⟨fun b o e => ?_, fun b o e => ?_⟩, os, bare⟩
      · by_cases m : b ∈ T
        · obtain ⟨t, mt, et⟩ := List.mem_map.mp m
          obtain ⟨more, z⟩ := grown b m
          have ob := Option.some.inj (e.symm.trans (blankT b m))
          have tab := (code t mt).tab (blank t mt)
          rw [show t.2 = b from et] at tab
          rw [ob]
          exact .inr (.inl ⟨tab.isCodeTable, rfl, #[], more, rfl, by rw [Array.empty_append]; exact z⟩)
        · exact .inl (stay b o m e)
      · by_cases m : b ∈ T
        · obtain ⟨more, z⟩ := grown b m
          exact ⟨_, z⟩
        · exact ⟨o, stay b o m e⟩
  cases old : K.lookup a with
  | some o =>
    have e := KX a o old
    rw [at_] at e
    cases e
    exact main false (fun z => nomatch z) (.inr ⟨_, vs.toArray, _, old, rfl, rfl, rfl, size, by simpa using vals⟩)
  | none => exact main true (fun _ => old) (.inl (.inr ⟨listObj vs, seed_own aT⟩))
theorem walkTG {l : PySem.W.OpenLaw} {n k : Nat} {q : Program} {loose : List Str} {XP : (Str → Option Value) → Heap → Prop} {YP : World → Heap → Prop} {d : DefRec} {CX : World → CXT} {x : Str}
    (hn : l.most = some n) (hn2 : n ≤ sizeLine) (hdf : d.params.defaults = []) (hr : Room k callerA)
    (F : ∀ (w : World) (mg : Str → Option Value) (fa : Addr) (h : Heap), YP w h → h.Ns mainGlobals mg → mg d.name = some (.ref fa) →
      ∃ (K : PySem.W.Frag) (fd : FuncData) (tf : List (Addr × Addr)) (sp : Sp), K.In h ∧ (∀ t ∈ tf, h.get? t.2 = some noTab) ∧ (∀ t ∈ tf, K.lookup t.2 = none) ∧ (∀ t ∈ tf, PySem.W.CodeHd h t.1 t.2) ∧ (∀ (s : Shared) (u : Value), BindsTo s fd ⟨[u], []⟩ [(x, u)]) ∧
        (∀ (H : Hp) (a : Addr) (ns : List Int), ns.length ≤ n → (∀ t ∈ tf, H t.2 = some (.tbl #[])) → SqL K H a (ns.map V.int) → sp [.ref a] H (fun v _ => v = .bl true) fun _ _ _ => False) ∧
        ∀ base : Heap, K.In base → base.Ns mainGlobals mg → (∀ t ∈ tf, LamX.TabB base mg t.1 t.2) → FnG l.prog w K mg base (CX w) k fa fd [x] sp)
    (no : ∀ (w : World) (H : Hp) (s : Shared) (e : Value) (s' : Shared), CX w [] H s (fun _ _ _ => False) e s' → False) :
    PySem.W.WalkO q loose XP YP l.row.toRowW d [] (fun f vs => PySem.call f vs) := by
  apply Att.attach_call hn hdf
  intro w s₀ s₁ mg mb fa o pm cd doc a vs ns G Y ho hd hcd hmg hobj hints hlen hg
  obtain ⟨K, fd, tf, sp, KX, blank, out, code, hb, hs, hF⟩ := F w mg fa _ Y G.T.g hmg
  exact lawTG KX G.T.g G.T.b G.T.builtins G.T.nolimit hg blank out code G.T.bmain hobj hints (Nat.le_trans hlen hn2) hr hF hb (fun H hH hS => hs H a ns hlen hH hS) fun H e s' => no w H s₁ e s'
/-- what the hook with tables tells is what the one without tells -/
theorem says_of {chk : PySem.W.Frag → Bool} {fn : List He.DefD} {ts : List TabN} {tf : List He.Defn} {w : World} {h : Heap} {K : PySem.W.Frag} (c : He.SaysX [] fn (ts.map fun t => ((fun K : PySem.W.Frag => He.ga K t.1), t.2)) tf chk w h K) : SaysRT chk fn ts w K := by
  have c1 := c.t
  have e1 : He.obsD [] fn K = He.valD fn := congrArg (fun z : He.AlT => z.1) c1
  have e2 := congrArg (fun z : He.AlT => z.2) c1
  have f1 : (fn.all fun d => d.ok K) = true := congrArg (fun z : He.AlD => z.1) e1
  have f2 : fn.map (fun d => He.fnW K d.at_) = fn.map He.DefD.val := congrArg (fun z : He.AlD => z.2) e1
  refine Prod.ext (Prod.ext ?_ f2) ?_
  · show (chk K && fn.all fun d => d.ok K) = true
    rw [c.more, f1]
    rfl
  · have e2' : (ts.map fun t => ((fun K : PySem.W.Frag => He.ga K t.1), t.2)).map (fun t => He.dicW K (t.1 K)) = (ts.map fun t => ((fun K : PySem.W.Frag => He.ga K t.1), t.2)).map fun t => some (He.keysIn w.params t.2) := e2
    rw [List.map_map, List.map_map] at e2'
    exact e2'
end L2.RV
set_option Elab.async false
set_option linter.all false
set_option maxRecDepth 100000
set_option maxHeartbeats 4000000
/-! Own classes' special methods: o[i], x in o, a | b, ==, !=, bool(o), str(o). -/
namespace L2.RV
open PySem PySem.Spec PyProof.Rows
/-- C's special method m, with its promise -/
structure MethS (CX : CXT) (P : Program) (w : World) (K : PySem.W.Frag) (mg : Str → Option Value) (base : Heap) (C : Addr) (m : Str) (k : Nat) (ps : List Str) (sp : Sp) : Prop where
  ex : ∃ f fd, Meth K C m f ∧ PySem.W.fnIn K f = true ∧ Binds K fd ps [] ∧ FnOk P w K mg base CX k f fd ps sp
/-- the two values, the first an instance of C, are handed to an own def -/
def rOwn (C : Addr) (sp : Sp) (E : XK) : R2 := fun x y H Q => ∃ a dx fs, x = .ref a ∧ H a = some (.ins C dx fs) ∧ sp [x, y] H Q E
section
variable {X : Cx} {CX : CXT} {C : Addr} {k : Nat} {ps : List Str} {sp : Sp} {E : XK} {pins : List (Addr × Obj)} {σ : L2.St} {H : Hp} {s : Shared} {Q : VK}
theorem run_at {A' : Around} {f : Addr} {fd : FuncData} {us : List Value} {vs : List V} (F : FnOk X.prog X.w X.K X.mg X.base CX k f fd ps sp) (b : Binds X.K fd ps []) (hr : Room k A') (fr : A'.frames = X.A.frames) (hx : Passes CX X E) (I : Inv X pins σ H s) (r : Vals vs us) (h : sp vs H Q E) :
    wpAny (model X.prog X.w) A' (call (.ref f) us) (EP X pins σ Q) X.xe s := by
  have e0 : Env0 X.prog X.w X.K X.mg X.base A' X.stack s H := by
    have e := I.env0
    exact ⟨fr.trans e.frames, e.mod, e.bs, e.bsz, e.funs, e.frf, e.hok, e.bare⟩
  have hl : us.length = ps.length := by rw [← r.length]; exact F.len _ _ _ _ h
  have hb := b s us I.kIn (by rw [List.append_nil]; exact hl)
  rw [List.append_nil] at hb
  refine wpAny_call (codeAny_mono (F.run A' X.stack s H ⟨us, []⟩ us vs Q E hr e0 hb r h) fun r s' hq => ?_)
  cases r with
  | error e => exact hx pins σ H s e s' I hq
  | ok fl =>
    cases fl with
    | ret w => exact I.after hq
    | next => exact False.elim hq
    | brk => exact False.elim hq
    | cont => exact False.elim hq
theorem ins_at {a dx : Addr} {fs : List (Str × V)} (I : Inv X pins σ H s) (e : H a = some (.ins C dx fs)) : ∃ ox od, PySem.W.InstAt s.heap a ox C od := by
  obtain ⟨mA, O, _⟩ := ins_get I.hok e
  obtain ⟨od, J, _⟩ := O.look
  exact ⟨_, _, J⟩
/-- o[i] -/
theorem pe_ixO {a b : Expr} {pos : Pos} {ta tb : TE} (D : MethS CX X.prog X.w X.K X.mg X.base C "__getitem__" k ps sp) (hr : Room (k + 1) X.A) (hx : Passes CX X E) (ha : PE X a ta) (hb : PE X b tb)
    (hsl : ∀ (x : Addr) (i : Value), subscripted b true (.ref x) i = runValue (.builtin "lifetime.subscript" ⟨[.ref x, i], []⟩) := by intro _ _; rfl) : PE X (.Subscript a b pos) (tOp (rOwn C sp E) ta tb) := by
  obtain ⟨f, fd, M, fi, bd, F⟩ := D.ex
  refine ⟨fun pins s σ H Q I h => ?_⟩
  refine Subscript_ (binT ha hb I h fun v u s2 x y H2 I2 rx ry q => ?_)
  obtain ⟨a, dx, fs, rfl, e, q⟩ := q
  cases rx
  obtain ⟨ox, od, J⟩ := ins_at I2 e
  obtain ⟨m, hF⟩ := I2.fr
  exact PySem.W.sub_K hF I2.ok.mod.kin J M.at_ fi M.fn (run_at (vs := [.ref a, y]) F bd hr.in1 rfl hx I2 (.cons rfl (.cons ry .nil)) q) (hsl _ _)
/-- x in o -/
def rInO (C : Addr) (sp : Sp) (E : XK) (neg : Bool) : R2 := fun x y H Q => ∃ a dx fs, y = .ref a ∧ H a = some (.ins C dx fs) ∧ sp [y, x] H (fun r H' => ∃ b, r = .bl b ∧ Q (.bl (neg ^^ b)) H') E
theorem op_inO (D : MethS CX X.prog X.w X.K X.mg X.base C "__contains__" k ps sp) (hr : Room k X.A) (hx : Passes CX X E) : OpR X (compareOp .In) (rInO C sp E false) := by
  obtain ⟨f, fd, M, fi, bd, F⟩ := D.ex
  intro pins s σ H x y v u Q I rx ry h
  obtain ⟨a, dx, fs, rfl, e, q⟩ := h
  cases ry
  obtain ⟨ox, od, J⟩ := ins_at I e
  obtain ⟨m, hF⟩ := I.fr
  refine PySem.W.in_K hF I.ok.mod.kin J M.at_ M.fn (thn (run_at (vs := [.ref a, x]) F bd hr rfl hx I (.cons rfl (.cons rx .nil)) q) ?_)
  rintro r s1 ⟨z, H1, I1, rz, b, rfl, q1⟩
  cases rz
  exact wpAny_truthy_bool ⟨.bl b, H1, I1, rfl, by simpa using q1⟩
theorem op_notInO (D : MethS CX X.prog X.w X.K X.mg X.base C "__contains__" k ps sp) (hr : Room k X.A) (hx : Passes CX X E) : OpR X (compareOp .NotIn) (rInO C sp E true) := by
  obtain ⟨f, fd, M, fi, bd, F⟩ := D.ex
  intro pins s σ H x y v u Q I rx ry h
  obtain ⟨a, dx, fs, rfl, e, q⟩ := h
  cases ry
  obtain ⟨ox, od, J⟩ := ins_at I e
  obtain ⟨m, hF⟩ := I.fr
  refine PySem.W.notIn_K hF I.ok.mod.kin J M.at_ M.fn (thn (run_at (vs := [.ref a, x]) F bd hr rfl hx I (.cons rfl (.cons rx .nil)) q) ?_)
  rintro r s1 ⟨z, H1, I1, rz, b, rfl, q1⟩
  cases rz
  exact wpAny_truthy_bool ⟨.bl (!b), H1, I1, rfl, by simpa using q1⟩
theorem back_of {v : V} {u : Value} {H : Hp} (I : Inv X pins σ H s) (r : RelV v u) (q : Q v H) : PySem.W.CmpBack (EP X pins σ Q) u s := by
  have z : EP X pins σ Q u s := ⟨v, H, I, r, q⟩
  cases u with
  | notImplemented =>
    cases v <;> first | (obtain ⟨t, y⟩ := r; cases y; done) | (cases r; done)
  | _ => exact z
/-- a op b, both instances of C -/
def rBinO (C : Addr) (sp : Sp) (E : XK) : R2 := fun x y H Q => ∃ a dx fs b dy gs, x = .ref a ∧ y = .ref b ∧ H a = some (.ins C dx fs) ∧ H b = some (.ins C dy gs) ∧ sp [x, y] H Q E
theorem op_binO {op : Operator} (D : MethS CX X.prog X.w X.K X.mg X.base C (PySem.dunder op.info.2) k ps sp) (hc : PySem.W.selfFirst X.K C = true) (hr : Room k X.A) (hx : Passes CX X E) : OpR X (binaryOp op) (rBinO C sp E) := by
  obtain ⟨f, fd, M, fi, bd, F⟩ := D.ex
  intro pins s σ H x y v u Q I rx ry h
  obtain ⟨a, dx, fs, b, dy, gs, rfl, rfl, e, e', q⟩ := h
  cases rx
  cases ry
  obtain ⟨ox, od, J⟩ := ins_at I e
  obtain ⟨oy, od', J'⟩ := ins_at I e'
  obtain ⟨m, hF⟩ := I.fr
  refine PySem.W.binop_K hF I.ok.mod.kin J J'.type hc M.at_ M.fn (thn (run_at (vs := [.ref a, .ref b]) F bd hr rfl hx I (.cons rfl (.cons rfl .nil)) q) ?_)
  rintro r s1 ⟨z, H1, I1, rz, q1⟩
  exact back_of I1 rz q1
/-- a == y, y of any type -/
def rEqO (K : PySem.W.Frag) (C : Addr) (sp : Sp) (E : XK) : R2 := fun x y H Q => ∃ a dx fs t, x = .ref a ∧ H a = some (.ins C dx fs) ∧ TyX K H y t ∧ PySem.W.notFirst K C t = true ∧ sp [x, y] H Q E
theorem op_eqO (D : MethS CX X.prog X.w X.K X.mg X.base C "__eq__" k ps sp) (hr : Room k X.A) (hx : Passes CX X E) : OpR X (compareOp .Eq) (rEqO X.K C sp E) := by
  obtain ⟨f, fd, M, fi, bd, F⟩ := D.ex
  intro pins s σ H x y v u Q I rx ry h
  obtain ⟨a, dx, fs, t, rfl, e, ty, nf, q⟩ := h
  cases rx
  obtain ⟨ox, od, J⟩ := ins_at I e
  obtain ⟨m, hF⟩ := I.fr
  obtain ⟨P, kx, hP, _⟩ := kit_of I ry ty
  show wpAny (model X.prog X.w) X.A (richCompare .Eq (.ref a) u) (EP X pins σ Q) X.xe s
  refine PySem.W.cmp_K (op := .Eq) hr.units0 hF I.ok.mod.kin J (kx.ty _ _ I.kIn hP) nf M.at_ M.fn (thn (run_at (vs := [.ref a, y]) F bd hr rfl hx I (.cons rfl (.cons ry .nil)) q) ?_)
  rintro r s1 ⟨z, H1, I1, rz, q1⟩
  exact back_of I1 rz q1
end
/-! ### != by an own == -/
section
variable {prog : Program} {w : World} {A : Around} {E : Value → Shared → Prop} {s : Shared} {K : PySem.W.Frag} {x C f : Addr} {ox : Obj} {od : Option Obj} {u t : Value}
open Builtin in
theorem ne_entry {R : Fin → Shared → Prop} (X : K.In s.heap) (I : PySem.W.InstAt s.heap x ox C od) (hs : PySem.W.findIn K (.ref C) "__eq__" = some (some (.ref f))) (hf : PySem.W.isFn K (.ref f) = true) (hu : A.units < cLine)
    (h : wpAny (model prog w) A (call (.ref f) [.ref x, u]) (fun v s' => ∃ b, v = .bool b ∧ R (.done (.ret (.bool (!b)))) s') E s) : wpAny (model prog w) A (Builtin.«object.__ne__» ⟨[.ref x, u], []⟩) R E s := by
  unfold Builtin.«object.__ne__»
  repeat (first
    | with_reducible refine wpAny_cRoomFor hu ?_
    | (refine wpAny_bind (m := callSpecialIfBound? (.ref x) (Str.ofString "__eq__") [u])
        (PySem.W.ifBound_K X I hs hf (wpAny_mono h (fun r s' hr => by
          obtain ⟨b, rfl, q⟩ := hr
          repeat (first | exact q | exact wpAny_pure q | exact wpAny_truthy_bool q | (refine wpAny_bind (m := truthy (.bool _)) (wpAny_truthy_bool ?_)) | wp_step)) fun _ _ z => z)))
    | wp_step)
theorem ne_bound {R : Option Value → Shared → Prop} (X : K.In s.heap) (I : PySem.W.InstAt s.heap x ox C od) (hn : PySem.W.findIn K (.ref C) "__ne__" = some (some (.builtin "object.__ne__")))
    (h : wpAny (model prog w) A (call (.builtin "object.__ne__") [.ref x, u]) (fun v => R (some v)) E s) : wpAny (model prog w) A (callSpecialIfBound? (.ref x) "__ne__" [u]) R E s := by
  have last : wpAny (model prog w) A (call (.builtin "object.__ne__") ([.ref x] ++ [u]) >>= fun v => pure (some v)) R E s := wpAny_bind (wpAny_mono h (fun _ _ z => wpAny_pure z) fun _ _ z => z)
  have bound := F.cmp_object.ne.bind (.ref x)
  simp only [callSpecialIfBound?, bindSpecialIfBound?]
  refine wpAny_holding (wpAny_bind (wpAny_bind (wpAny_bind (I.type.here ((PySem.W.looks_findIn X hn).here ?_)))))
  refine wpAny_bind (wpAny_askSetting (wpAny_ite ?_))
  split
  · exact wpAny_bind (wpAny_of_eq bound (wpAny_pure (by exact last)))
  · exact wpAny_tryCatch (wpAny_bind (wpAny_of_eq bound (wpAny_pure (by exact last))))
theorem ne_own {R : Value → Shared → Prop} (X : K.In s.heap) (I : PySem.W.InstAt s.heap x ox C od) (ty : PySem.W.Looks (model prog w) s.heap (typeOf u) t) (nf : PySem.W.notFirst K C t = true) (hm : PySem.W.mroIn K C (.type "object") = some true)
    (hn : PySem.W.findIn K (.ref C) "__ne__" = some (some (.builtin "object.__ne__"))) (hs : PySem.W.findIn K (.ref C) "__eq__" = some (some (.ref f))) (hf : PySem.W.isFn K (.ref f) = true) (hu : A.units + 1 < cLine)
    (h : wpAny (model prog w) A.in1 (call (.ref f) [.ref x, u]) (fun v s' => ∃ b, v = .bool b ∧ R (.bool (!b)) s') E s) : wpAny (model prog w) A (richCompare .NotEq (.ref x) u) R E s := by
  have one : wpAny (model prog w) A (tryCompare (.ref x) "__ne__" u) (fun r s' => ∃ b, r = some (.bool b) ∧ R (.bool b) s') E s := by
    unfold tryCompare
    refine wpAny_bind (ne_bound X I hn (wpAny_call (codeAny_call_builtin F.cmp_object.ne.plain F.cmpEntry_ne (PySem.W.check_slot F.cmpKind_ne F.cmpSplit_ne (I.type.andThen (PySem.W.looks_mroIn X hm)) (F.cmpArgs_ne _ _) (ne_entry (A := A.in1) X I hs hf hu (wpAny_mono h (fun v s' z => ?_) fun _ _ z => z))))))
    obtain ⟨b, rfl, q⟩ := z
    first | exact ⟨b, rfl, wpAny_pure ⟨!b, rfl, q⟩⟩ | exact ⟨b, rfl, _, rfl, q⟩
  unfold richCompare
  simp only [oneThing_ref, cmpInfo_NotEq]
  refine wpAny_holding (wpAny_bind (wpAny_cRoomFor (Nat.lt_of_succ_lt hu) ?_))
  refine wpAny_bind (I.type.here (wpAny_bind (ty.here ?_)))
  have rest : wpAny (model prog w) A (tryCompare (.ref x) "__ne__" u) (fun r s' => ∃ b, r = some (.bool b) ∧ R (.bool b) s') E s := one
  split
  · rename_i q
    have e : PySem.W.subIn K t (.ref C) = some false := by
      rcases Bool.or_eq_true_iff.mp nf with e | e
      · rw [beq_iff_eq.mp e] at q
        simp at q
      · exact beq_iff_eq.mp e
    refine wpAny_bind ((PySem.W.looks_subIn X e).here ?_)
    simp only [Bool.false_eq_true, if_false]
    refine wpAny_bind (wpAny_mono rest (fun r s' z => ?_) fun _ _ z => z)
    obtain ⟨b, rfl, q⟩ := z
    exact wpAny_pure q
  · refine wpAny_bind (wpAny_pure ?_)
    simp only [Bool.false_eq_true, if_false]
    refine wpAny_bind (wpAny_mono rest (fun r s' z => ?_) fun _ _ z => z)
    obtain ⟨b, rfl, q⟩ := z
    exact wpAny_pure q
end
section
variable {X : Cx} {CX : CXT} {C : Addr} {k : Nat} {ps : List Str} {sp : Sp} {E : XK}
def rNeO (K : PySem.W.Frag) (C : Addr) (sp : Sp) (E : XK) : R2 := fun x y H Q => ∃ a dx fs t, x = .ref a ∧ H a = some (.ins C dx fs) ∧ TyX K H y t ∧ PySem.W.notFirst K C t = true ∧ sp [x, y] H (fun r H' => ∃ b, r = .bl b ∧ Q (.bl (!b)) H') E
theorem op_neO (D : MethS CX X.prog X.w X.K X.mg X.base C "__eq__" k ps sp) (hm : PySem.W.mroIn X.K C (.type "object") = some true) (hn : PySem.W.findIn X.K (.ref C) "__ne__" = some (some (.builtin "object.__ne__"))) (hr : Room (k + 1) X.A) (hx : Passes CX X E) : OpR X (compareOp .NotEq) (rNeO X.K C sp E) := by
  obtain ⟨f, fd, M, fi, bd, F⟩ := D.ex
  intro pins s σ H x y v u Q I rx ry h
  obtain ⟨a, dx, fs, t, rfl, e, ty, nf, q⟩ := h
  cases rx
  obtain ⟨ox, od, J⟩ := ins_at I e
  obtain ⟨P, kx, hP, _⟩ := kit_of I ry ty
  show wpAny (model X.prog X.w) X.A (richCompare .NotEq (.ref a) u) (EP X pins σ Q) X.xe s
  refine ne_own I.kIn J (kx.ty _ _ I.kIn hP) nf hm hn M.at_ M.fn (by have := hr.units; omega) (thn (run_at (vs := [.ref a, y]) F bd hr.in1 rfl hx I (.cons rfl (.cons ry .nil)) q) ?_)
  rintro r s1 ⟨z, H1, I1, rz, b, rfl, q1⟩
  cases rz
  exact ⟨b, rfl, .bl (!b), H1, I1, rfl, q1⟩
/-- bool(o), str(o) -/
def rSelf (C : Addr) (sp : Sp) (E : XK) (W : VK → VK) : List V → Hp → VK → Prop := fun xs H Q => ∃ a dx fs, xs = [.ref a] ∧ H a = some (.ins C dx fs) ∧ sp [.ref a] H (W Q) E
theorem call_strO (D : MethS CX X.prog X.w X.K X.mg X.base C "__str__" k ps sp) (hr : Room (k + 2) X.A) (hx : Passes CX X E) : CallR X (.type "str") (rSelf C sp E fun Q r H' => ∃ y, r = .str y ∧ Q r H') := by
  obtain ⟨f, fd, M, fi, bd, F⟩ := D.ex
  intro pins s σ H xs us Q I r h
  obtain ⟨a, dx, fs, rfl, e, q⟩ := h
  obtain ⟨u, rfl, ru⟩ := vals1 r
  cases ru
  obtain ⟨ox, od, J⟩ := ins_at I e
  refine PySem.W.kso_call hr.in1.in1.units0 I.kIn J M.at_ M.fn (thn (run_at (vs := [.ref a]) F bd hr.in1.in1 rfl hx I (.cons rfl .nil) q) ?_)
  rintro r s1 ⟨z, H1, I1, rz, y, rfl, q1⟩
  obtain ⟨t, rfl⟩ := rz
  exact ⟨.str y, H1, I1, ⟨t, rfl⟩, q1⟩
end
end L2.RV
set_option Elab.async false
set_option linter.all false
set_option maxRecDepth 100000
set_option maxHeartbeats 4000000
/-! bool(o) by an own __bool__; C.m(..) of a staticmethod. -/
namespace L2.RV
open PySem PySem.Spec PyProof.Rows
section
variable {prog : Program} {w : World} {A : Around} {E : Value → Shared → Prop} {s : Shared}
theorem bool_new_any {x : Value} {R : Fin → Shared → Prop} (h : wpAny (model prog w) A (truthy x) (fun b s' => R (.done (.ret (.bool b))) s') E s) : wpAny (model prog w) A (Builtin.«bool.__new__» ⟨[.type "bool", x], []⟩) R E s := by
  have sub := F.conv_sub_bool
  unfold Builtin.«bool.__new__»
  repeat (first
    | (refine wpAny_bind (m := truthy x) (wpAny_mono h (fun b s' q => by repeat (first | exact q | exact wpAny_pure q | wp_step)) fun _ _ z => z))
    | wp_step)
theorem bool_any {x : Value} {Q : Value → Shared → Prop} (h : wpAny (model prog w) A.in1.in1 (truthy x) (fun b s' => Q (.bool b) s') E s) : wpAny (model prog w) A (call (.type "bool") [x]) Q E s := by
  refine callType_codes (T := "bool") (Bi := Builtin.«object.__init__») (Q₁ := fun v s' => ∃ b, v = .bool b ∧ Q v s') F.called_bool (F.typeCall_bool_1 x) F.entry_object_init ?_ ?_
  · refine codeAny_call_builtin (id := "bool.__new__") (by decide +kernel) F.entry_bool_new (wpAny_of_eq (F.newCall_bool_1 x) (bool_new_any (wpAny_mono h (fun b s' q => ?_) fun _ _ z => z)))
    exact ⟨b, rfl, q⟩
  · rintro v s' ⟨b, rfl, q⟩
    exact ⟨rfl, F.args_object_init_2 _ _, object_init_meets F.called_bool.init.lookup F.called_bool.made (by decide) prog w A.in1 _ s' ⟨rfl, rfl, q⟩⟩
end
section
variable {X : Cx} {CX : CXT} {C p g : Addr} {k : Nat} {ps : List Str} {sp : Sp} {E : XK} {m p1 : Str} {mc : Value} {o e : Expr} {es : List Expr} {ta te : TE} {t : TA} {apos pos kp : Pos} {pl : Sem Bool}
theorem call_boolO (D : MethS CX X.prog X.w X.K X.mg X.base C "__bool__" k ps sp) (hr : Room (k + 2) X.A) (hx : Passes CX X E) : CallR X (.type "bool") (rSelf C sp E fun Q r H' => ∃ b, r = .bl b ∧ Q r H') := by
  obtain ⟨f, fd, M, fi, bd, F⟩ := D.ex
  intro pins s σ H xs us Q I r h
  obtain ⟨a, dx, fs, rfl, e, q⟩ := h
  obtain ⟨u, rfl, ru⟩ := vals1 r
  cases ru
  obtain ⟨ox, od, J⟩ := ins_at I e
  obtain ⟨n, hF⟩ := I.fr
  refine bool_any (PySem.W.truthy_K hF I.ok.mod.kin J M.at_ M.fn (thn (run_at (vs := [.ref a]) F bd hr.in1.in1 rfl hx I (.cons rfl .nil) q) ?_))
  rintro r s1 ⟨z, H1, I1, rz, b, rfl, q1⟩
  cases rz
  exact ⟨.bl b, H1, I1, rfl, q1⟩
/-- C.m is a staticmethod: its record at p, its def at g -/
structure SMet (K : PySem.W.Frag) (C : Addr) (mc : Value) (m : Str) (p g : Addr) : Prop where
  at_ : PySem.W.findCls K (.ref C) mc m = some (.get (.builtin "staticmethod.__get__") (.ref p) .none (.ref C))
  rc : ∃ rest, PySem.W.recIn K p "staticmethod" = some (.ref g :: rest)
  kp : PySem.W.keepIn K (.ref g) = true
/-- C's staticmethod m, with its promise; with one parameter it may be handed by its name -/
structure SMethX (CX : CXT) (P : Program) (w : World) (K : PySem.W.Frag) (mg : Str → Option Value) (base : Heap) (C : Addr) (m : Str) (k : Nat) (ps : List Str) (sp : Sp) : Prop where
  ex : ∃ mc p g fd, ClX.CRead K C mc ∧ SMet K C mc m p g ∧ Binds K fd ps [] ∧ FnOk P w K mg base CX k g fd ps sp ∧ ∀ q, ps = [q] → ∀ (s : Shared) (u : Value), BindsTo s fd ⟨[], [(q, u)]⟩ [(q, u)]
def tSMeth (C : Addr) (sp : Sp) (E : XK) (ta : TE) (t : TA) : TE := fun σ H Q => ta σ H fun x H1 => x = .ref C ∧ t σ H1 fun vs H2 => sp vs H2 Q E
theorem getsm {pins : List (Addr × Obj)} {σ : L2.St} {H : Hp} {s : Shared} {A : Around} {E' : Value → Shared → Prop} {Q : Value × List Value → Shared → Prop} (I : Inv X pins σ H s) (r : ClX.CRead X.K C mc) (c : SMet X.K C mc m p g) (h : ∀ s', Inv X pins σ H s' → Q (.ref g, []) s') :
    wpAny (model X.prog X.w) A (getMethod (.ref C) m pl) Q E' s := by
  obtain ⟨rest, hp⟩ := c.rc
  refine PySem.W.method_cls I.kIn r.ga (PySem.W.cls_bind I.kIn r.rd c.at_ (wpAny_call (PySem.W.sm_get (s := { s with toks := s.toks + 1 }) I.kIn hp (PySem.W.handed_on rfl (h _ (I.tok _))))))
theorem pe_smeth (D : SMethX CX X.prog X.w X.K X.mg X.base C m k ps sp) (hr : Room k X.A) (hx : Passes CX X E) (ho : PE X o ta) (ha : PA X (e :: es) t)
    (hst : starEach (e :: es) X.env = (false, eval e X.env) :: starEach es X.env := by rfl) (hpl : (backTo pos (starEach es X.env)).any (·.1) = false := by rfl)
    (ht : eval (.Call (.Attribute o m apos) (e :: es) [] pos) X.env = (do
      let ov ← eval o X.env
      standAt apos.atName
      let (f, first) ← holding [ov] (getMethod ov m pl)
      callWith pos f first (backTo pos (starEach (e :: es) X.env)) (backToKw pos (keywordEach [] X.env))) := by rfl) :
    PE X (.Call (.Attribute o m apos) (e :: es) [] pos) (tSMeth C sp E ta t) := by
  obtain ⟨mc, p, g, fd, r, c, bd, F, _⟩ := D.ex
  refine ⟨fun pins s σ H Q I h => ?_⟩
  refine PySem.W.methodCall_KW (pl := pl) (thn (ho.run pins s σ H _ I h) fun u s1 ⟨x, H1, I1, rx, ex, q⟩ => ?_) ht
  subst ex
  cases rx
  refine getsm I1 r c fun s2 I2 => ?_
  refine PySem.W.callWith_K (h₀ := X.base) I2.ok.mod.kin c.kp (thn (ha.run pos pins s2 σ H1 _ I2 q) fun us s3 ⟨vs, H2, I3, rv, q2⟩ => ⟨I3.kIn, ?_⟩) hst hpl
  exact run_at F bd hr rfl hx I3 rv q2
/-- C.m(p = e) -/
theorem pe_smethK (D : SMethX CX X.prog X.w X.K X.mg X.base C m k [p1] sp) (hr : Room k X.A) (hx : Passes CX X E) (ho : PE X o ta) (ha : PE X e te)
    (hall : (backToKw pos (keywordEach [⟨some p1, e, kp⟩] X.env)).all (·.1.isSome) = true := by rfl) (hks : (backToKw pos (keywordEach [⟨some p1, e, kp⟩] X.env)).filterMap (·.1) = [p1] := by rfl)
    (hpl : ((backTo pos (starEach [] X.env)).any (·.1) || (backToKw pos (keywordEach [⟨some p1, e, kp⟩] X.env)).any (·.1.isNone)) = false := by rfl)
    (ht : eval (.Call (.Attribute o m apos) [] [⟨some p1, e, kp⟩] pos) X.env = (do
      let ov ← eval o X.env
      standAt apos.atName
      let (f, first) ← holding [ov] (getMethod ov m pl)
      callWith pos f first (backTo pos (starEach [] X.env)) (backToKw pos (keywordEach [⟨some p1, e, kp⟩] X.env))) := by rfl) :
    PE X (.Call (.Attribute o m apos) [] [⟨some p1, e, kp⟩] pos) (tSMeth C sp E ta (tCons te tNil)) := by
  obtain ⟨mc, p, g, fd, r, c, bd, F, kw⟩ := D.ex
  refine ⟨fun pins s σ H Q I h => ?_⟩
  refine PySem.W.methodCall_KW (pl := pl) (thn (ho.run pins s σ H _ I h) fun u s1 ⟨x, H1, I1, rx, ex, q⟩ => ?_) ht
  subst ex
  cases rx
  refine getsm I1 r c fun s2 I2 => ?_
  refine PySem.W.callWith_KW0 (h₀ := X.base) I2.ok.mod.kin c.kp hall ?_ hpl
  refine kws1 (R := fun v H2 => sp [v] H2 Q E) ha I2 q (fun u s3 v H2 I3 r' q2 => ⟨I3.kIn, ?_⟩)
  rw [hks]
  refine wpAny_call (codeAny_mono (F.run X.A X.stack s3 H2 ⟨[], [(p1, u)]⟩ [u] [v] Q E hr I3.env0 (kw p1 rfl s3 u) (.cons r' .nil) q2) fun r'' s' hq => ?_)
  cases r'' with
  | error e => exact hx pins σ H2 s3 e s' I3 hq
  | ok fl =>
    cases fl with
    | ret u => exact I3.after hq
    | next => exact False.elim hq
    | brk => exact False.elim hq
    | cont => exact False.elim hq
end
end L2.RV
set_option Elab.async false
set_option linter.all false
set_option maxRecDepth 100000
set_option maxHeartbeats 4000000
/-! One hook for a text with classes, staticmethods, dicts and tuples of the top, lambdas. -/
namespace L2.RV
open PySem PySem.Spec PyProof.Rows
abbrev AlA : Type := He.AlD × List (Option (List (Option (Str × Int))))
def obsRA (chk : PySem.W.Frag → Bool) (fn : List He5.DefA) (ts : List TabN) (more : Bool) (K : PySem.W.Frag) : AlA := ((more && (chk K && fn.all fun d => d.ok K), fn.map fun d => He5.fnA K (d.at_ K)), ts.map fun t => He.dicW K (He.ga K t.1))
def valRA (fn : List He5.DefA) (ts : List TabN) (w : World) : AlA := ((true, fn.map He5.DefA.val), ts.map fun t => some (He.keysIn w.params t.2))
/-- what an object names, a function's and a code's side tables aside -/
def refsK (o : Obj) : List Addr := He.refV o.cls ++ match o.data with
  | .func fd => He.refV fd.code ++ He.refV fd.defaults ++ He.refV fd.kwdefaults ++ fd.closure.map (·.2)
  | .fields vs => (match o.cls with
    | .type "code" => []
    | _ => vs.toList.flatMap He.refV) ++ o.dict.toList
  | .cell (some v) => He.refV v
  | .cell none => []
  | _ => He.refsO o ++ o.dict.toList
/-- what is reached from the stack, each once: those met are the bits of m; what is on the stack twice costs a step -/
def reachK (g : Addr → Option Obj) : Nat → List Addr → Nat → List Addr → List Addr
  | 0, _, _, acc => acc
  | _ + 1, [], _, acc => acc
  | f + 1, a :: st, m, acc => match Nat.beq (Nat.land (Nat.shiftRight m a) 1) 1 with
    | true => reachK g f st m acc
    | false => reachK g f ((match g a with
      | some o => refsK o
      | none => []) ++ st) (Nat.lor m (Nat.shiftLeft 1 a)) (a :: acc)
def fragA (g : Addr → Option Obj) (n : Nat) : PySem.W.Frag := He.frT g (mainGlobals :: cStatics :: reachK g n [mainGlobals] 0 [])
def obsRAG (n : Nat) (chk : PySem.W.Frag → Bool) (fn : List He5.DefA) (ts : List TabN) (tf : List He.Defn) (g : Addr → Option Obj) : AlA := obsRA chk fn ts (He.tabsB g tf (fragA g n)) (fragA g n)
/-- what is told of the heap behind the top -/
structure SaysRA (chk : PySem.W.Frag → Bool) (fn : List He5.DefA) (ts : List TabN) (tf : List He.Defn) (w : World) (h : Heap) (K : PySem.W.Frag) : Prop where
  all : obsRA chk fn ts true K = valRA fn ts w
  hd : ∀ p ∈ tf, PySem.W.codeHdIn K (He.cT K p).1 (He.cT K p).2 = true
  out : ∀ p ∈ tf, K.lookup (He.cT K p).2 = none
  empty : ∀ p ∈ tf, h.get? (He.cT K p).2 = some noTab
theorem saysRA_of {n : Nat} {chk : PySem.W.Frag → Bool} {fn : List He5.DefA} {ts : List TabN} {tf : List He.Defn} {w : World} {h : Heap} (e : obsRAG n chk fn ts tf h.get? = valRA fn ts w) : SaysRA chk fn ts tf w h (fragA h.get? n) := by
  have e1 : (He.tabsB h.get? tf (fragA h.get? n) && (chk (fragA h.get? n) && fn.all fun d => d.ok (fragA h.get? n))) = true := congrArg (fun z : AlA => z.1.1) e
  obtain ⟨tb, c⟩ := ba2 e1
  have each : ∀ p ∈ tf, PySem.W.codeHdIn (fragA h.get? n) (He.cT (fragA h.get? n) p).1 (He.cT (fragA h.get? n) p).2 = true ∧ ∃ o, h.get? (He.cT (fragA h.get? n) p).2 = some o ∧ He.emptyTab o = true := by
    intro p hp
    obtain ⟨a, b⟩ := ba2 (List.all_eq_true.mp tb p hp)
    refine ⟨a, ?_⟩
    revert b
    cases h.get? (He.cT (fragA h.get? n) p).2 with
    | none => exact fun b => nomatch b
    | some o => exact fun b => ⟨o, rfl, b⟩
  refine ⟨?_, fun p hp => (each p hp).1, fun p hp => ?_, fun p hp => ?_⟩
  · have e2 : fn.map (fun d => He5.fnA (fragA h.get? n) (d.at_ (fragA h.get? n))) = fn.map He5.DefA.val := congrArg (fun z : AlA => z.1.2) e
    have e3 : ts.map (fun t => He.dicW (fragA h.get? n) (He.ga (fragA h.get? n) t.1)) = ts.map fun t => some (He.keysIn w.params t.2) := congrArg (fun z : AlA => z.2) e
    exact Prod.ext (Prod.ext c e2) e3
  · obtain ⟨_, o, q, z⟩ := each p hp
    exact He.frT_none q z
  · obtain ⟨_, o, q, z⟩ := each p hp
    rw [q, He.emptyTab_eq z]
def hookRA (n : Nat) (chk : PySem.W.Frag → Bool) (fn : List He5.DefA) (ts : List TabN) (tf : List He.Defn) : PySem.W.Hook where
  α := AlA
  obs := fun s => obsRAG n chk fn ts tf s.heap.get?
  val := fun w => valRA fn ts w
  says := fun w h => ∃ K : PySem.W.Frag, K.In h ∧ SaysRA chk fn ts tf w h K
  of := fun _ _ e => ⟨_, He.frT_in, saysRA_of e⟩
  keeps := fun _ _ _ ⟨K, hK, c⟩ k => ⟨K, PySem.W.Frag.In.keeps hK k, ⟨c.all, c.hd, c.out, fun p hp => k _ _ (c.empty p hp)⟩⟩
theorem obsRAG_eq {n : Nat} {chk : PySem.W.Frag → Bool} {fn : List He5.DefA} {ts : List TabN} {tf : List He.Defn} {g : Addr → Option Obj} {s : Shared} (h : ∀ a, g a = s.heap.get? a) : obsRAG n chk fn ts tf g = (hookRA n chk fn ts tf).obs s := by
  obtain rfl : g = s.heap.get? := funext h
  rfl
section
variable {chk : PySem.W.Frag → Bool} {fn : List He5.DefA} {ts : List TabN} {tf : List He.Defn} {w : World} {h : Heap} {K : PySem.W.Frag}
theorem SaysRA.look (c : SaysRA chk fn ts tf w h K) : chk K = true := (ba2 (show (chk K && fn.all fun d => d.ok K) = true from congrArg (fun z : AlA => z.1.1) c.all)).1
theorem SaysRA.def_ (c : SaysRA chk fn ts tf w h K) (i : Nat) {d : He5.DefA} (e : fn[i]? = some d := by rfl) : ∃ fd, FunD K d.name d.qual d.params d.body d.scope (d.dvs K) (d.kws K) (d.at_ K) fd := by
  have ok := (ba2 (show (chk K && fn.all fun d => d.ok K) = true from congrArg (fun z : AlA => z.1.1) c.all)).2
  have same : fn.map (fun d => He5.fnA K (d.at_ K)) = fn.map He5.DefA.val := congrArg (fun z : AlA => z.1.2) c.all
  have at_ := congrArg (fun l => l[i]?) same
  simp only [List.getElem?_map, e, Option.map_some, Option.some.injEq] at at_
  exact He5.DefA.funD at_ (List.all_eq_true.mp ok d (List.mem_of_getElem? e))
theorem SaysRA.tab (c : SaysRA chk fn ts tf w h K) (i : Nat) {t : TabN} (e : ts[i]? = some t := by rfl) : ∃ es n, KDict K w (He.ga K t.1) es n := by
  have same : ts.map (fun t => He.dicW K (He.ga K t.1)) = ts.map fun t => some (He.keysIn w.params t.2) := congrArg (fun z : AlA => z.2) c.all
  have at_ := congrArg (fun l => l[i]?) same
  simp only [List.getElem?_map, e, Option.map_some, Option.some.injEq] at at_
  exact He.dicW_ok at_
end
/-! ### staticmethods, special methods -/
def creadB (K : PySem.W.Frag) (C : Addr) : Bool := PySem.W.readsIn K C (.type "type") && eqOO (PySem.W.specialIn K (.ref C) "__getattribute__") (some (some (.builtin "type.__getattribute__")))
theorem creadB_ok {K : PySem.W.Frag} {C : Addr} (h : creadB K C = true) : ClX.CRead K C (.type "type") := by
  obtain ⟨a, b⟩ := ba2 h
  exact ⟨a, of_decide_eq_true b⟩
/-- the def of C's staticmethod m -/
def smA (K : PySem.W.Frag) (C : Addr) (m : Str) : Addr := He5.wf K C "staticmethod" m
def smB (K : PySem.W.Frag) (C : Addr) (m : Str) : Bool := He5.wrapB K C "staticmethod" "staticmethod.__get__" m && PySem.W.keepIn K (.ref (smA K C m))
theorem smB_ok {K : PySem.W.Frag} {C : Addr} {m : Str} (h : smB K C m = true) : SMet K C (.type "type") m (He.ma K C m) (smA K C m) := by
  obtain ⟨a, b⟩ := ba2 h
  obtain ⟨c, d⟩ := He5.wrapB_ok a
  exact ⟨c, d, b⟩
/-- what special methods ask of their class -/
def ownB (K : PySem.W.Frag) (C : Addr) : Bool := PySem.W.selfFirst K C && (decide (PySem.W.mroIn K C (.type "object") = some true) && (eqOO (PySem.W.findIn K (.ref C) "__ne__") (some (some (.builtin "object.__ne__")))))
theorem ownB_ok {K : PySem.W.Frag} {C : Addr} (h : ownB K C = true) : PySem.W.selfFirst K C = true ∧ PySem.W.mroIn K C (.type "object") = some true ∧ PySem.W.findIn K (.ref C) "__ne__" = some (some (.builtin "object.__ne__")) := by
  obtain ⟨a, b⟩ := ba2 h
  obtain ⟨b, c⟩ := ba2 b
  exact ⟨a, of_decide_eq_true b, of_decide_eq_true c⟩
/-- values that are told as data, and their types -/
def bts : List String := ["NoneType", "bool", "int", "str", "list", "tuple", "dict"]
/-- an instance of C beside the classes of the text: what isinstance and == say -/
def ownsB (K : PySem.W.Frag) (own : List Str) (x : Str) : Bool := ownB K (He.ga K x) && (creadB K (He.ga K x) && (decide (PySem.W.findIn K (.ref (He.ga K x)) "__class__" = some (some (.builtin "object.__class__"))) && (decide (PySem.W.specialIn K (.builtin "object.__class__") "__get__" = some (some (.builtin "getset_descriptor.__get__"))) &&
  (decide (PySem.W.takesIn K (.builtin "object.__class__") = some true) && ((own.all fun y => decide (PySem.W.kitOne K (.ref (He.ga K y)) (.ref (He.ga K x)) = some (decide (y = x))) && PySem.W.notFirst K (He.ga K x) (.ref (He.ga K y))) &&
  (bts.all fun t => decide (PySem.W.kitOne K (.type t) (.ref (He.ga K x)) = some false) && (decide (PySem.W.kitOne K (.ref (He.ga K x)) (.type t) = some false) && PySem.W.notFirst K (He.ga K x) (.type t))))))))
structure Owns (K : PySem.W.Frag) (own : List Str) (x : Str) : Prop where
  self : PySem.W.selfFirst K (He.ga K x) = true
  obj : PySem.W.mroIn K (He.ga K x) (.type "object") = some true
  ne : PySem.W.findIn K (.ref (He.ga K x)) "__ne__" = some (some (.builtin "object.__ne__"))
  read : ClX.CRead K (He.ga K x) (.type "type")
  cls : PySem.W.findIn K (.ref (He.ga K x)) "__class__" = some (some (.builtin "object.__class__"))
  get : PySem.W.specialIn K (.builtin "object.__class__") "__get__" = some (some (.builtin "getset_descriptor.__get__"))
  tk : PySem.W.takesIn K (.builtin "object.__class__") = some true
  kit : ∀ y ∈ own, PySem.W.kitOne K (.ref (He.ga K y)) (.ref (He.ga K x)) = some (decide (y = x)) ∧ PySem.W.notFirst K (He.ga K x) (.ref (He.ga K y)) = true
  kitT : ∀ t ∈ bts, PySem.W.kitOne K (.type t) (.ref (He.ga K x)) = some false ∧ PySem.W.kitOne K (.ref (He.ga K x)) (.type t) = some false ∧ PySem.W.notFirst K (He.ga K x) (.type t) = true
theorem ownsB_ok {K : PySem.W.Frag} {own : List Str} {x : Str} (h : ownsB K own x = true) : Owns K own x := by
  obtain ⟨a, h⟩ := ba2 h
  obtain ⟨b, h⟩ := ba2 h
  obtain ⟨c, h⟩ := ba2 h
  obtain ⟨d, h⟩ := ba2 h
  obtain ⟨e, h⟩ := ba2 h
  obtain ⟨f, g⟩ := ba2 h
  obtain ⟨a1, a2, a3⟩ := ownB_ok a
  refine ⟨a1, a2, a3, creadB_ok b, of_decide_eq_true c, of_decide_eq_true d, of_decide_eq_true e, fun y hy => ?_, fun t ht => ?_⟩
  · obtain ⟨u, v⟩ := ba2 (List.all_eq_true.mp f y hy)
    exact ⟨of_decide_eq_true u, v⟩
  · obtain ⟨u, v⟩ := ba2 (List.all_eq_true.mp g t ht)
    obtain ⟨v, z⟩ := ba2 v
    exact ⟨of_decide_eq_true u, of_decide_eq_true v, z⟩
/-- the type of an instance -/
theorem ins_ty {K : PySem.W.Frag} {own : List Str} {x : Str} {H : Hp} {a dx : Addr} {fs : List (Str × V)} (o : Owns K own x) (c : Cls K (He.ga K x)) (e : H a = some (.ins (He.ga K x) dx fs)) : TyX K H (.ref a) (.ref (He.ga K x)) := .base (.ins e c o.cls o.get o.tk o.obj)
end L2.RV
set_option Elab.async false
set_option linter.all false
set_option maxRecDepth 100000
set_option maxHeartbeats 4000000
/-! C.m(..) of a classmethod: what is asked of the heap. -/
namespace L2.RV
open PySem PySem.Spec PyProof.Rows
/-- the def of C's classmethod m -/
def cmA (K : PySem.W.Frag) (C : Addr) (m : Str) : Addr := He5.wf K C "classmethod" m
def cmB (K : PySem.W.Frag) (C : Addr) (m : Str) : Bool := He5.wrapB K C "classmethod" "classmethod.__get__" m && PySem.W.fnIn K (cmA K C m)
theorem cmB_ok {K : PySem.W.Frag} {C : Addr} {m : Str} (h : cmB K C m = true) : ClX.CMet K C (.type "type") m (He.ma K C m) (cmA K C m) := by
  obtain ⟨a, b⟩ := ba2 h
  obtain ⟨c, d⟩ := He5.wrapB_ok a
  exact ⟨c, d, b⟩
end L2.RV
set_option Elab.async false
set_option linter.all false
set_option maxRecDepth 100000
set_option maxHeartbeats 4000000
/-! Properties of own classes, read. -/
namespace L2.RV
open PySem PySem.Spec PyProof.Rows
/-- the def behind C's property f -/
def prG (K : PySem.W.Frag) (C : Addr) (f : Str) : Addr := He5.wf K C "property" f
def propB (K : PySem.W.Frag) (p : Str × Str) : Bool :=
  eqOO (PySem.W.findIn K (.ref (He.ga K p.1)) p.2) (some (some (.ref (He.ma K (He.ga K p.1) p.2)))) &&
  (eqOO (PySem.W.specialIn K (.ref (He.ma K (He.ga K p.1) p.2)) "__get__") (some (some (.builtin "property.__get__"))) &&
  (decide (PySem.W.takesIn K (.ref (He.ma K (He.ga K p.1) p.2)) = some true) && (match PySem.W.recIn K (He.ma K (He.ga K p.1) p.2) "property" with
    | some (.ref _ :: _) => true
    | _ => false)))
theorem propB_ok {K : PySem.W.Frag} {x f : Str} (h : propB K (x, f) = true) : PropOf K (He.ga K x) f (He.ma K (He.ga K x) f) (prG K (He.ga K x) f) := by
  obtain ⟨a, h⟩ := ba2 h
  obtain ⟨b, h⟩ := ba2 h
  obtain ⟨c, d⟩ := ba2 h
  refine ⟨of_decide_eq_true a, of_decide_eq_true b, of_decide_eq_true c, ?_⟩
  unfold prG He5.wf
  revert d
  show (match PySem.W.recIn K (He.ma K (He.ga K x) f) "property" with
    | some (.ref _ :: _) => true
    | _ => false) = true → _
  cases PySem.W.recIn K (He.ma K (He.ga K x) f) "property" with
  | none => exact fun z => nomatch z
  | some l =>
    cases l with
    | nil => exact fun z => nomatch z
    | cons v r =>
      cases v with
      | ref g => exact fun _ => ⟨r, rfl⟩
      | _ => exact fun z => nomatch z
/-- C's property f, with its promise -/
structure PropX (P : Program) (w : World) (K : PySem.W.Frag) (mg : Str → Option Value) (base : Heap) (C : Addr) (f : Str) (k : Nat) (sp : Sp) : Prop where
  ex : ∃ p g fd, Cls K C ∧ PropOf K C f p g ∧ FnOk P w K mg base CX0 k g fd ["self"] sp ∧ Binds K fd ["self"] []
theorem pe_propX {X : Cx} {C : Addr} {f : Str} {k : Nat} {sp : Sp} {E : XK} {e : Expr} {pos : Pos} {ta : TE} (D : PropX X.prog X.w X.K X.mg X.base C f k sp) (hr : Room (k + 1) X.A) (he : PE X e ta)
    (hab : attributeBase e f X.env (eval e X.env) = eval e X.env := by rfl) : PE X (.Attribute e f pos) (tProp C sp [] E ta) := by
  obtain ⟨p, g, fd, c, hp, F, b⟩ := D.ex
  exact pe_prop he c hp F hr b .nil pass_CX0 hab
end L2.RV
set_option Elab.async false
set_option linter.all false
/-! A world whose one row is told. -/
namespace L2.RV
open PySem
def fixF (f : String → Bool) (r : String) (b : Bool) : String → Bool := fun s => if s = r then b else f s
theorem fixF_eq (f : String → Bool) (r : String) : f = fixF f r (f r) := by
  funext s
  unfold fixF
  split
  · rename_i e
    rw [e]
  · rfl
/-- the world, its answer at the row r being b -/
def fixW (w : World) (r : String) (b : Bool) : World := { w with params := { w.params with followText := fixF w.params.followText r b } }
theorem fixW_eq (w : World) (r : String) : w = fixW w r (w.params.followText r) := by
  obtain ⟨d, p⟩ := w
  unfold fixW
  rw [← fixF_eq]
end L2.RV
set_option Elab.async false
set_option linter.all false
set_option maxRecDepth 100000
set_option maxHeartbeats 4000000
/-! The text by places, what is asked of the heap behind the top. -/
namespace L2.K19
open PySem PySem.Spec PyProof.Rows L2.RV
def top (i : Nat) : Stmt := PySem.Challenge.pw_rowvault_k19_texts_of_questions.main.body.getD i (.Pass ⟨0, 0, 0, 0⟩)
abbrev s_is_whole : Stmt := top 4
theorem sc_is_whole : FnScope ["value"] ["value"] (defScope s_is_whole) := ⟨rfl, rfl, rfl, by decide +kernel, rfl, by decide +kernel, by decide +kernel⟩
def d_is_whole : He5.DefA := ⟨fun K => He.ga K "is_whole", "is_whole", "is_whole", defArgs s_is_whole, defBody s_is_whole, defScope s_is_whole, [], []⟩
abbrev s_is_whole_from : Stmt := top 5
theorem sc_is_whole_from : FnScope ["value", "low", "high"] ["value", "low", "high"] (defScope s_is_whole_from) := ⟨rfl, rfl, rfl, by decide +kernel, rfl, by decide +kernel, by decide +kernel⟩
def d_is_whole_from : He5.DefA := ⟨fun K => He.ga K "is_whole_from", "is_whole_from", "is_whole_from", defArgs s_is_whole_from, defBody s_is_whole_from, defScope s_is_whole_from, [], []⟩
abbrev s_is_name : Stmt := top 6
theorem sc_is_name : FnScope ["value", "letters"] ["value"] (defScope s_is_name) := ⟨rfl, rfl, rfl, by decide +kernel, rfl, by decide +kernel, by decide +kernel⟩
def d_is_name : He5.DefA := ⟨fun K => He.ga K "is_name", "is_name", "is_name", defArgs s_is_name, defBody s_is_name, defScope s_is_name, [], []⟩
abbrev s_whole_text : Stmt := top 22
theorem sc_whole_text : FnScope ["number", "rest", "pieces", "digits", "piece"] ["number"] (defScope s_whole_text) := ⟨rfl, rfl, rfl, by decide +kernel, rfl, by decide +kernel, by decide +kernel⟩
def d_whole_text : He5.DefA := ⟨fun K => He.ga K "whole_text", "whole_text", "whole_text", defArgs s_whole_text, defBody s_whole_text, defScope s_whole_text, [], []⟩
abbrev s_is_whole_text : Stmt := top 23
theorem sc_is_whole_text : FnScope ["word", "digits"] ["word"] (defScope s_is_whole_text) := ⟨rfl, rfl, rfl, by decide +kernel, rfl, by decide +kernel, by decide +kernel⟩
def d_is_whole_text : He5.DefA := ⟨fun K => He.ga K "is_whole_text", "is_whole_text", "is_whole_text", defArgs s_is_whole_text, defBody s_is_whole_text, defScope s_is_whole_text, [], []⟩
abbrev s_whole_of : Stmt := top 24
theorem sc_whole_of : FnScope ["word", "digits", "first", "number", "at"] ["word"] (defScope s_whole_of) := ⟨rfl, rfl, rfl, by decide +kernel, rfl, by decide +kernel, by decide +kernel⟩
def d_whole_of : He5.DefA := ⟨fun K => He.ga K "whole_of", "whole_of", "whole_of", defArgs s_whole_of, defBody s_whole_of, defScope s_whole_of, [], []⟩
abbrev s_words_of : Stmt := top 25
theorem sc_words_of : FnScope ["text", "line"] ["text", "line"] (defScope s_words_of) := ⟨rfl, rfl, rfl, by decide +kernel, rfl, by decide +kernel, by decide +kernel⟩
def d_words_of : He5.DefA := ⟨fun K => He.ga K "words_of", "words_of", "words_of", defArgs s_words_of, defBody s_words_of, defScope s_words_of, [.int 0], []⟩
abbrev s_are_keys : Stmt := top 32
theorem sc_are_keys : FnScope ["value", "key"] ["value"] (defScope s_are_keys) := ⟨rfl, rfl, rfl, by decide +kernel, rfl, by decide +kernel, by decide +kernel⟩
def d_are_keys : He5.DefA := ⟨fun K => He.ga K "are_keys", "are_keys", "are_keys", defArgs s_are_keys, defBody s_are_keys, defScope s_are_keys, [], []⟩
abbrev s_take_shape : Stmt := top 33
theorem sc_take_shape : FnScope ["words", "keys", "days"] ["words"] (defScope s_take_shape) := ⟨rfl, rfl, rfl, by decide +kernel, rfl, by decide +kernel, by decide +kernel⟩
def d_take_shape : He5.DefA := ⟨fun K => He.ga K "take_shape", "take_shape", "take_shape", defArgs s_take_shape, defBody s_take_shape, defScope s_take_shape, [], []⟩
abbrev s_is_key_behind : Stmt := top 34
theorem sc_is_key_behind : FnScope ["word", "keys", "key"] ["word", "keys"] (defScope s_is_key_behind) := ⟨rfl, rfl, rfl, by decide +kernel, rfl, by decide +kernel, by decide +kernel⟩
def d_is_key_behind : He5.DefA := ⟨fun K => He.ga K "is_key_behind", "is_key_behind", "is_key_behind", defArgs s_is_key_behind, defBody s_is_key_behind, defScope s_is_key_behind, [], []⟩
abbrev s_take_place : Stmt := top 35
theorem sc_take_place : FnScope ["words", "shape", "after", "places", "key", "day", "place"] ["words", "shape", "after"] (defScope s_take_place) := ⟨rfl, rfl, rfl, by decide +kernel, rfl, by decide +kernel, by decide +kernel⟩
def d_take_place : He5.DefA := ⟨fun K => He.ga K "take_place", "take_place", "take_place", defArgs s_take_place, defBody s_take_place, defScope s_take_place, [.int (-1)], []⟩
abbrev s_check_places : Stmt := top 40
theorem sc_check_places : FnScope ["shape", "places", "place"] ["shape", "places"] (defScope s_check_places) := ⟨rfl, rfl, rfl, by decide +kernel, rfl, by decide +kernel, by decide +kernel⟩
def d_check_places : He5.DefA := ⟨fun K => He.ga K "check_places", "check_places", "check_places", defArgs s_check_places, defBody s_check_places, defScope s_check_places, [], []⟩
abbrev s_is_part_of : Stmt := top 43
theorem sc_is_part_of : FnScope ["value", "shape"] ["value", "shape"] (defScope s_is_part_of) := ⟨rfl, rfl, rfl, by decide +kernel, rfl, by decide +kernel, by decide +kernel⟩
def d_is_part_of : He5.DefA := ⟨fun K => He.ga K "is_part_of", "is_part_of", "is_part_of", defArgs s_is_part_of, defBody s_is_part_of, defScope s_is_part_of, [], []⟩
abbrev s_take_places : Stmt := top 44
theorem sc_take_places : FnScope ["words", "shape", "places", "place"] ["words", "shape"] (defScope s_take_places) := ⟨rfl, rfl, rfl, by decide +kernel, rfl, by decide +kernel, by decide +kernel⟩
def d_take_places : He5.DefA := ⟨fun K => He.ga K "take_places", "take_places", "take_places", defArgs s_take_places, defBody s_take_places, defScope s_take_places, [], []⟩
abbrev s_check_amounts : Stmt := top 49
theorem sc_check_amounts : FnScope ["shape", "amounts", "place", "amount"] ["shape", "amounts"] (defScope s_check_amounts) := ⟨rfl, rfl, rfl, by decide +kernel, rfl, by decide +kernel, by decide +kernel⟩
def d_check_amounts : He5.DefA := ⟨fun K => He.ga K "check_amounts", "check_amounts", "check_amounts", defArgs s_check_amounts, defBody s_check_amounts, defScope s_check_amounts, [], []⟩
abbrev s_check_rows : Stmt := top 50
theorem sc_check_rows : FnScope ["shape", "rows", "at", "row", "key", "day", "amount"] ["shape", "rows"] (defScope s_check_rows) := ⟨rfl, rfl, rfl, by decide +kernel, rfl, by decide +kernel, by decide +kernel⟩
def d_check_rows : He5.DefA := ⟨fun K => He.ga K "check_rows", "check_rows", "check_rows", defArgs s_check_rows, defBody s_check_rows, defScope s_check_rows, [], []⟩
abbrev s_is_table_of : Stmt := top 53
theorem sc_is_table_of : FnScope ["value", "shape"] ["value", "shape"] (defScope s_is_table_of) := ⟨rfl, rfl, rfl, by decide +kernel, rfl, by decide +kernel, by decide +kernel⟩
def d_is_table_of : He5.DefA := ⟨fun K => He.ga K "is_table_of", "is_table_of", "is_table_of", defArgs s_is_table_of, defBody s_is_table_of, defScope s_is_table_of, [], []⟩
abbrev s_take_amounts : Stmt := top 56
theorem sc_take_amounts : FnScope ["words", "shape", "amounts", "place"] ["words", "shape"] (defScope s_take_amounts) := ⟨rfl, rfl, rfl, by decide +kernel, rfl, by decide +kernel, by decide +kernel⟩
def d_take_amounts : He5.DefA := ⟨fun K => He.ga K "take_amounts", "take_amounts", "take_amounts", defArgs s_take_amounts, defBody s_take_amounts, defScope s_take_amounts, [], []⟩
abbrev s_take_weight : Stmt := top 57
theorem sc_take_weight : FnScope ["words"] ["words"] (defScope s_take_weight) := ⟨rfl, rfl, rfl, by decide +kernel, rfl, by decide +kernel, by decide +kernel⟩
def d_take_weight : He5.DefA := ⟨fun K => He.ga K "take_weight", "take_weight", "take_weight", defArgs s_take_weight, defBody s_take_weight, defScope s_take_weight, [], []⟩
abbrev s_is_question_of : Stmt := top 64
theorem sc_is_question_of : FnScope ["value", "shape"] ["value", "shape"] (defScope s_is_question_of) := ⟨rfl, rfl, rfl, by decide +kernel, rfl, by decide +kernel, by decide +kernel⟩
def d_is_question_of : He5.DefA := ⟨fun K => He.ga K "is_question_of", "is_question_of", "is_question_of", defArgs s_is_question_of, defBody s_is_question_of, defScope s_is_question_of, [], []⟩
abbrev s_take_weights : Stmt := top 67
theorem sc_take_weights : FnScope ["words", "shape", "weights", "weight", "place"] ["words", "shape"] (defScope s_take_weights) := ⟨rfl, rfl, rfl, by decide +kernel, rfl, by decide +kernel, by decide +kernel⟩
def d_take_weights : He5.DefA := ⟨fun K => He.ga K "take_weights", "take_weights", "take_weights", defArgs s_take_weights, defBody s_take_weights, defScope s_take_weights, [], []⟩
abbrev s_law_pen : Stmt := top 69
theorem sc_law_pen : FnScope ["_law_script"] ["_law_script"] (defScope s_law_pen) := ⟨rfl, rfl, rfl, by decide +kernel, rfl, by decide +kernel, by decide +kernel⟩
def d_law_pen : He5.DefA := ⟨fun K => He.ga K "_law_pen", "_law_pen", "_law_pen", defArgs s_law_pen, defBody s_law_pen, defScope s_law_pen, [], []⟩
abbrev s_law_draw : Stmt := top 70
theorem sc_law_draw : FnScope ["_law_pen_here", "_law_many", "_law_turn", "_law_cell", "_law_blend", "_law_digit", "_law_great"] ["_law_pen_here", "_law_many"] (defScope s_law_draw) := ⟨rfl, rfl, rfl, by decide +kernel, rfl, by decide +kernel, by decide +kernel⟩
def d_law_draw : He5.DefA := ⟨fun K => He.ga K "_law_draw", "_law_draw", "_law_draw", defArgs s_law_draw, defBody s_law_draw, defScope s_law_draw, [], []⟩
abbrev s_law_pick : Stmt := top 71
theorem sc_law_pick : FnScope ["_law_pen_here", "_law_some_here"] ["_law_pen_here", "_law_some_here"] (defScope s_law_pick) := ⟨rfl, rfl, rfl, by decide +kernel, rfl, by decide +kernel, by decide +kernel⟩
def d_law_pick : He5.DefA := ⟨fun K => He.ga K "_law_pick", "_law_pick", "_law_pick", defArgs s_law_pick, defBody s_law_pick, defScope s_law_pick, [], []⟩
abbrev s_law_shape : Stmt := top 72
theorem sc_law_shape : FnScope ["_law_pen_here"] ["_law_pen_here"] (defScope s_law_shape) := ⟨rfl, rfl, rfl, by decide +kernel, rfl, by decide +kernel, by decide +kernel⟩
def d_law_shape : He5.DefA := ⟨fun K => He.ga K "_law_shape", "_law_shape", "_law_shape", defArgs s_law_shape, defBody s_law_shape, defScope s_law_shape, [], []⟩
abbrev s_law_weights : Stmt := top 73
theorem sc_law_weights : FnScope ["_law_pen_here", "_law_shape_here", "_law_found", "_law_place"] ["_law_pen_here", "_law_shape_here"] (defScope s_law_weights) := ⟨rfl, rfl, rfl, by decide +kernel, rfl, by decide +kernel, by decide +kernel⟩
def d_law_weights : He5.DefA := ⟨fun K => He.ga K "_law_weights", "_law_weights", "_law_weights", defArgs s_law_weights, defBody s_law_weights, defScope s_law_weights, [], []⟩
abbrev s_law_bare : Stmt := top 74
theorem sc_law_bare : FnScope ["_law_weights_here", "_law_place"] ["_law_weights_here"] (defScope s_law_bare) := ⟨rfl, rfl, rfl, by decide +kernel, rfl, by decide +kernel, by decide +kernel⟩
def d_law_bare : He5.DefA := ⟨fun K => He.ga K "_law_bare", "_law_bare", "_law_bare", defArgs s_law_bare, defBody s_law_bare, defScope s_law_bare, [], []⟩
abbrev s_law_sum : Stmt := top 75
theorem sc_law_sum : FnScope ["_law_shape_here", "_law_weights_here", "_law_amounts", "_law_place"] ["_law_shape_here", "_law_weights_here", "_law_amounts"] (defScope s_law_sum) := ⟨rfl, rfl, rfl, by decide +kernel, rfl, by decide +kernel, by decide +kernel⟩
def d_law_sum : He5.DefA := ⟨fun K => He.ga K "_law_sum", "_law_sum", "_law_sum", defArgs s_law_sum, defBody s_law_sum, defScope s_law_sum, [], []⟩
abbrev s_law_some : Stmt := top 76
theorem sc_law_some : FnScope ["_law_pen_here", "_law_shape_here", "_law_place"] ["_law_pen_here", "_law_shape_here"] (defScope s_law_some) := ⟨rfl, rfl, rfl, by decide +kernel, rfl, by decide +kernel, by decide +kernel⟩
def d_law_some : He5.DefA := ⟨fun K => He.ga K "_law_some", "_law_some", "_law_some", defArgs s_law_some, defBody s_law_some, defScope s_law_some, [], []⟩
abbrev s_law_part : Stmt := top 77
theorem sc_law_part : FnScope ["_law_shape_here", "_law_places", "_law_found", "_law_place"] ["_law_shape_here", "_law_places"] (defScope s_law_part) := ⟨rfl, rfl, rfl, by decide +kernel, rfl, by decide +kernel, by decide +kernel⟩
def d_law_part : He5.DefA := ⟨fun K => He.ga K "_law_part", "_law_part", "_law_part", defArgs s_law_part, defBody s_law_part, defScope s_law_part, [], []⟩
abbrev s_law_is_number : Stmt := top 78
theorem sc_law_is_number : FnScope ["_law_word", "_law_figures", "_law_sign"] ["_law_word"] (defScope s_law_is_number) := ⟨rfl, rfl, rfl, by decide +kernel, rfl, by decide +kernel, by decide +kernel⟩
def d_law_is_number : He5.DefA := ⟨fun K => He.ga K "_law_is_number", "_law_is_number", "_law_is_number", defArgs s_law_is_number, defBody s_law_is_number, defScope s_law_is_number, [], []⟩
abbrev s_law_place_wrong : Stmt := top 79
theorem sc_law_place_wrong : FnScope ["_law_shape_here", "_law_words", "_law_at", "_law_last", "_law_some_here", "_law_place"] ["_law_shape_here", "_law_words", "_law_at", "_law_last"] (defScope s_law_place_wrong) := ⟨rfl, rfl, rfl, by decide +kernel, rfl, by decide +kernel, by decide +kernel⟩
def d_law_place_wrong : He5.DefA := ⟨fun K => He.ga K "_law_place_wrong", "_law_place_wrong", "_law_place_wrong", defArgs s_law_place_wrong, defBody s_law_place_wrong, defScope s_law_place_wrong, [], []⟩
abbrev s_law_day : Stmt := top 80
theorem sc_law_day : FnScope ["_law_word"] ["_law_word"] (defScope s_law_day) := ⟨rfl, rfl, rfl, by decide +kernel, rfl, by decide +kernel, by decide +kernel⟩
def d_law_day : He5.DefA := ⟨fun K => He.ga K "_law_day", "_law_day", "_law_day", defArgs s_law_day, defBody s_law_day, defScope s_law_day, [], []⟩
abbrev s_law_rows_wrong : Stmt := top 81
theorem sc_law_rows_wrong : FnScope ["_law_shape_here", "_law_words", "_law_at", "_law_last", "_law_wrong"] ["_law_shape_here", "_law_words"] (defScope s_law_rows_wrong) := ⟨rfl, rfl, rfl, by decide +kernel, rfl, by decide +kernel, by decide +kernel⟩
def d_law_rows_wrong : He5.DefA := ⟨fun K => He.ga K "_law_rows_wrong", "_law_rows_wrong", "_law_rows_wrong", defArgs s_law_rows_wrong, defBody s_law_rows_wrong, defScope s_law_rows_wrong, [], []⟩
abbrev s_law_text : Stmt := top 82
theorem sc_law_text : FnScope ["_law_shape_here", "_law_weights_here", "_law_rows", "_law_key", "_law_day_here"] ["_law_shape_here", "_law_weights_here"] (defScope s_law_text) := ⟨rfl, rfl, rfl, by decide +kernel, rfl, by decide +kernel, by decide +kernel⟩
def d_law_text : He5.DefA := ⟨fun K => He.ga K "_law_text", "_law_text", "_law_text", defArgs s_law_text, defBody s_law_text, defScope s_law_text, [], []⟩
abbrev s_law_heard : Stmt := top 83
theorem sc_law_heard : FnScope ["_law_ask", "error", "_law_some_here", "_law_caught", "_law_found"] ["_law_ask"] (defScope s_law_heard) := ⟨rfl, rfl, rfl, by decide +kernel, rfl, by decide +kernel, by decide +kernel⟩
def d_law_heard : He5.DefA := ⟨fun K => He.ga K "_law_heard", "_law_heard", "_law_heard", defArgs s_law_heard, defBody s_law_heard, defScope s_law_heard, [], []⟩
abbrev s_law_bent : Stmt := top 84
theorem sc_law_bent : FnScope ["_law_pen_here", "_law_page", "_law_at", "_law_odd", "_law_words", "_law_kind", "_law_sign", "_law_cut"] ["_law_pen_here", "_law_page"] (defScope s_law_bent) := ⟨rfl, rfl, rfl, by decide +kernel, rfl, by decide +kernel, by decide +kernel⟩
def d_law_bent : He5.DefA := ⟨fun K => He.ga K "_law_bent", "_law_bent", "_law_bent", defArgs s_law_bent, defBody s_law_bent, defScope s_law_bent, [], []⟩
abbrev s_law_right : Stmt := top 85
theorem sc_law_right : FnScope ["_law_shape_here", "_law_page", "_law_wrong", "_law_heard_here"] ["_law_shape_here", "_law_page"] (defScope s_law_right) := ⟨rfl, rfl, rfl, by decide +kernel, rfl, by decide +kernel, by decide +kernel⟩
def d_law_right : He5.DefA := ⟨fun K => He.ga K "_law_right", "_law_right", "_law_right", defArgs s_law_right, defBody s_law_right, defScope s_law_right, [], []⟩
abbrev s_law : Stmt := top 86
theorem sc_law : FnScope ["_law_script", "_law_pen_here", "_law_turn", "_law_two", "_law_some_here", "_law_shape_here", "_law_weights_here", "_law_again", "_law_odd", "_law_bad", "_law_made", "_law_page"] ["_law_script"] (defScope s_law) := ⟨rfl, rfl, rfl, by decide +kernel, rfl, by decide +kernel, by decide +kernel⟩
def d_law : He5.DefA := ⟨fun K => He.ga K "law", "law", "law", defArgs s_law, defBody s_law, defScope s_law, [], []⟩
abbrev s_check_shape_parts : Stmt := top 38
theorem sc_check_shape_parts : FnScope ["shape"] ["shape"] (defScope s_check_shape_parts) := ⟨rfl, rfl, rfl, by decide +kernel, rfl, by decide +kernel, by decide +kernel⟩
def d_check_shape_parts : He5.DefA := ⟨fun K => He.ga K "check_shape_parts", "check_shape", "check_shape", defArgs s_check_shape_parts, defBody s_check_shape_parts, defScope s_check_shape_parts, [], []⟩
abbrev s_check_other_parts : Stmt := top 41
theorem sc_check_other_parts : FnScope ["part", "other"] ["part", "other"] (defScope s_check_other_parts) := ⟨rfl, rfl, rfl, by decide +kernel, rfl, by decide +kernel, by decide +kernel⟩
def d_check_other_parts : He5.DefA := ⟨fun K => He.ga K "check_other_parts", "check_other", "check_other", defArgs s_check_other_parts, defBody s_check_other_parts, defScope s_check_other_parts, [], []⟩
abbrev s_check_shape_tables : Stmt := top 47
theorem sc_check_shape_tables : FnScope ["shape"] ["shape"] (defScope s_check_shape_tables) := ⟨rfl, rfl, rfl, by decide +kernel, rfl, by decide +kernel, by decide +kernel⟩
def d_check_shape_tables : He5.DefA := ⟨fun K => He.ga K "check_shape_tables", "check_shape", "check_shape", defArgs s_check_shape_tables, defBody s_check_shape_tables, defScope s_check_shape_tables, [], []⟩
abbrev s_check_other_tables : Stmt := top 51
theorem sc_check_other_tables : FnScope ["table", "other"] ["table", "other"] (defScope s_check_other_tables) := ⟨rfl, rfl, rfl, by decide +kernel, rfl, by decide +kernel, by decide +kernel⟩
def d_check_other_tables : He5.DefA := ⟨fun K => He.ga K "check_other_tables", "check_other", "check_other", defArgs s_check_other_tables, defBody s_check_other_tables, defScope s_check_other_tables, [], []⟩
abbrev s_times_tables : Stmt := top 54
theorem sc_times_tables : FnScope ["table", "number", "place"] ["table", "number"] (defScope s_times_tables) := ⟨rfl, rfl, rfl, by decide +kernel, rfl, by decide +kernel, by decide +kernel⟩
def d_times_tables : He5.DefA := ⟨fun K => He.ga K "times_tables", "times", "times", defArgs s_times_tables, defBody s_times_tables, defScope s_times_tables, [], []⟩
abbrev s_check_shape_questions : Stmt := top 60
theorem sc_check_shape_questions : FnScope ["shape"] ["shape"] (defScope s_check_shape_questions) := ⟨rfl, rfl, rfl, by decide +kernel, rfl, by decide +kernel, by decide +kernel⟩
def d_check_shape_questions : He5.DefA := ⟨fun K => He.ga K "check_shape_questions", "check_shape", "check_shape", defArgs s_check_shape_questions, defBody s_check_shape_questions, defScope s_check_shape_questions, [], []⟩
abbrev s_check_other_questions : Stmt := top 62
theorem sc_check_other_questions : FnScope ["question", "other"] ["question", "other"] (defScope s_check_other_questions) := ⟨rfl, rfl, rfl, by decide +kernel, rfl, by decide +kernel, by decide +kernel⟩
def d_check_other_questions : He5.DefA := ⟨fun K => He.ga K "check_other_questions", "check_other", "check_other", defArgs s_check_other_questions, defBody s_check_other_questions, defScope s_check_other_questions, [], []⟩
abbrev s_times_questions : Stmt := top 65
theorem sc_times_questions : FnScope ["question", "number", "place"] ["question", "number"] (defScope s_times_questions) := ⟨rfl, rfl, rfl, by decide +kernel, rfl, by decide +kernel, by decide +kernel⟩
def d_times_questions : He5.DefA := ⟨fun K => He.ga K "times_questions", "times", "times", defArgs s_times_questions, defBody s_times_questions, defScope s_times_questions, [], []⟩
abbrev s_BadShape : Stmt := inClass (top 11) 0
theorem sc_BadShape : FnScope ["self", "part"] ["self", "part"] (defScope s_BadShape) := ⟨rfl, rfl, rfl, by decide +kernel, rfl, by decide +kernel, by decide +kernel⟩
def d_BadShape : He5.DefA := ⟨fun K => He.fAd K ("BadShape", some "__init__"), "__init__", "BadShape.__init__", defArgs s_BadShape, defBody s_BadShape, defScope s_BadShape, [], []⟩
abbrev s_BadTable : Stmt := inClass (top 12) 0
theorem sc_BadTable : FnScope ["self", "part"] ["self", "part"] (defScope s_BadTable) := ⟨rfl, rfl, rfl, by decide +kernel, rfl, by decide +kernel, by decide +kernel⟩
def d_BadTable : He5.DefA := ⟨fun K => He.fAd K ("BadTable", some "__init__"), "__init__", "BadTable.__init__", defArgs s_BadTable, defBody s_BadTable, defScope s_BadTable, [], []⟩
abbrev s_BadPart : Stmt := inClass (top 13) 0
theorem sc_BadPart : FnScope ["self", "part"] ["self", "part"] (defScope s_BadPart) := ⟨rfl, rfl, rfl, by decide +kernel, rfl, by decide +kernel, by decide +kernel⟩
def d_BadPart : He5.DefA := ⟨fun K => He.fAd K ("BadPart", some "__init__"), "__init__", "BadPart.__init__", defArgs s_BadPart, defBody s_BadPart, defScope s_BadPart, [], []⟩
abbrev s_BadQuestion : Stmt := inClass (top 14) 0
theorem sc_BadQuestion : FnScope ["self", "part"] ["self", "part"] (defScope s_BadQuestion) := ⟨rfl, rfl, rfl, by decide +kernel, rfl, by decide +kernel, by decide +kernel⟩
def d_BadQuestion : He5.DefA := ⟨fun K => He.fAd K ("BadQuestion", some "__init__"), "__init__", "BadQuestion.__init__", defArgs s_BadQuestion, defBody s_BadQuestion, defScope s_BadQuestion, [], []⟩
abbrev s_BadPlace : Stmt := inClass (top 15) 0
theorem sc_BadPlace : FnScope ["self", "value"] ["self", "value"] (defScope s_BadPlace) := ⟨rfl, rfl, rfl, by decide +kernel, rfl, by decide +kernel, by decide +kernel⟩
def d_BadPlace : He5.DefA := ⟨fun K => He.fAd K ("BadPlace", some "__init__"), "__init__", "BadPlace.__init__", defArgs s_BadPlace, defBody s_BadPlace, defScope s_BadPlace, [], []⟩
abbrev s_BadAmount : Stmt := inClass (top 16) 0
theorem sc_BadAmount : FnScope ["self", "value"] ["self", "value"] (defScope s_BadAmount) := ⟨rfl, rfl, rfl, by decide +kernel, rfl, by decide +kernel, by decide +kernel⟩
def d_BadAmount : He5.DefA := ⟨fun K => He.fAd K ("BadAmount", some "__init__"), "__init__", "BadAmount.__init__", defArgs s_BadAmount, defBody s_BadAmount, defScope s_BadAmount, [], []⟩
abbrev s_BadCount : Stmt := inClass (top 17) 0
theorem sc_BadCount : FnScope ["self", "value"] ["self", "value"] (defScope s_BadCount) := ⟨rfl, rfl, rfl, by decide +kernel, rfl, by decide +kernel, by decide +kernel⟩
def d_BadCount : He5.DefA := ⟨fun K => He.fAd K ("BadCount", some "__init__"), "__init__", "BadCount.__init__", defArgs s_BadCount, defBody s_BadCount, defScope s_BadCount, [], []⟩
abbrev s_BadText : Stmt := inClass (top 18) 0
theorem sc_BadText : FnScope ["self", "line", "word"] ["self", "line", "word"] (defScope s_BadText) := ⟨rfl, rfl, rfl, by decide +kernel, rfl, by decide +kernel, by decide +kernel⟩
def d_BadText : He5.DefA := ⟨fun K => He.fAd K ("BadText", some "__init__"), "__init__", "BadText.__init__", defArgs s_BadText, defBody s_BadText, defScope s_BadText, [], []⟩
abbrev s_TooMany : Stmt := inClass (top 19) 0
theorem sc_TooMany : FnScope ["self", "what", "most"] ["self", "what", "most"] (defScope s_TooMany) := ⟨rfl, rfl, rfl, by decide +kernel, rfl, by decide +kernel, by decide +kernel⟩
def d_TooMany : He5.DefA := ⟨fun K => He.fAd K ("TooMany", some "__init__"), "__init__", "TooMany.__init__", defArgs s_TooMany, defBody s_TooMany, defScope s_TooMany, [], []⟩
abbrev s_Words_init : Stmt := inClass (top 26) 0
theorem sc_Words_init : FnScope ["self", "words", "at", "line"] ["self", "words", "at", "line"] (defScope s_Words_init) := ⟨rfl, rfl, rfl, by decide +kernel, rfl, by decide +kernel, by decide +kernel⟩
def d_Words_init : He5.DefA := ⟨fun K => He.ma K (He.ga K "Words") "__init__", "__init__", "Words.__init__", defArgs s_Words_init, defBody s_Words_init, defScope s_Words_init, [], []⟩
abbrev s_Words_refuse : Stmt := inClass (top 26) 1
theorem sc_Words_refuse : FnScope ["self"] ["self"] (defScope s_Words_refuse) := ⟨rfl, rfl, rfl, by decide +kernel, rfl, by decide +kernel, by decide +kernel⟩
def d_Words_refuse : He5.DefA := ⟨fun K => He.ma K (He.ga K "Words") "refuse", "refuse", "Words.refuse", defArgs s_Words_refuse, defBody s_Words_refuse, defScope s_Words_refuse, [], []⟩
abbrev s_Words_peek : Stmt := inClass (top 26) 2
theorem sc_Words_peek : FnScope ["self"] ["self"] (defScope s_Words_peek) := ⟨rfl, rfl, rfl, by decide +kernel, rfl, by decide +kernel, by decide +kernel⟩
def d_Words_peek : He5.DefA := ⟨fun K => He.ma K (He.ga K "Words") "peek", "peek", "Words.peek", defArgs s_Words_peek, defBody s_Words_peek, defScope s_Words_peek, [], []⟩
abbrev s_Words_behind : Stmt := inClass (top 26) 3
theorem sc_Words_behind : FnScope ["self"] ["self"] (defScope s_Words_behind) := ⟨rfl, rfl, rfl, by decide +kernel, rfl, by decide +kernel, by decide +kernel⟩
def d_Words_behind : He5.DefA := ⟨fun K => He.ma K (He.ga K "Words") "behind", "behind", "Words.behind", defArgs s_Words_behind, defBody s_Words_behind, defScope s_Words_behind, [], []⟩
abbrev s_Words_behind_one : Stmt := inClass (top 26) 4
theorem sc_Words_behind_one : FnScope ["self", "choices"] ["self", "choices"] (defScope s_Words_behind_one) := ⟨rfl, rfl, rfl, by decide +kernel, rfl, by decide +kernel, by decide +kernel⟩
def d_Words_behind_one : He5.DefA := ⟨fun K => He.ma K (He.ga K "Words") "behind_one", "behind_one", "Words.behind_one", defArgs s_Words_behind_one, defBody s_Words_behind_one, defScope s_Words_behind_one, [], []⟩
abbrev s_Words_take_one : Stmt := inClass (top 26) 5
theorem sc_Words_take_one : FnScope ["self", "choices"] ["self", "choices"] (defScope s_Words_take_one) := ⟨rfl, rfl, rfl, by decide +kernel, rfl, by decide +kernel, by decide +kernel⟩
def d_Words_take_one : He5.DefA := ⟨fun K => He.ma K (He.ga K "Words") "take_one", "take_one", "Words.take_one", defArgs s_Words_take_one, defBody s_Words_take_one, defScope s_Words_take_one, [], []⟩
abbrev s_Words_is_at_whole : Stmt := inClass (top 26) 6
theorem sc_Words_is_at_whole : FnScope ["self", "word"] ["self"] (defScope s_Words_is_at_whole) := ⟨rfl, rfl, rfl, by decide +kernel, rfl, by decide +kernel, by decide +kernel⟩
def d_Words_is_at_whole : He5.DefA := ⟨fun K => He.ma K (He.ga K "Words") "is_at_whole", "is_at_whole", "Words.is_at_whole", defArgs s_Words_is_at_whole, defBody s_Words_is_at_whole, defScope s_Words_is_at_whole, [], []⟩
abbrev s_Words_take_whole : Stmt := inClass (top 26) 7
theorem sc_Words_take_whole : FnScope ["self"] ["self"] (defScope s_Words_take_whole) := ⟨rfl, rfl, rfl, by decide +kernel, rfl, by decide +kernel, by decide +kernel⟩
def d_Words_take_whole : He5.DefA := ⟨fun K => He.ma K (He.ga K "Words") "take_whole", "take_whole", "Words.take_whole", defArgs s_Words_take_whole, defBody s_Words_take_whole, defScope s_Words_take_whole, [], []⟩
abbrev s_Words_take_from : Stmt := inClass (top 26) 8
theorem sc_Words_take_from : FnScope ["self", "low", "high"] ["self", "low", "high"] (defScope s_Words_take_from) := ⟨rfl, rfl, rfl, by decide +kernel, rfl, by decide +kernel, by decide +kernel⟩
def d_Words_take_from : He5.DefA := ⟨fun K => He.ma K (He.ga K "Words") "take_from", "take_from", "Words.take_from", defArgs s_Words_take_from, defBody s_Words_take_from, defScope s_Words_take_from, [], []⟩
abbrev s_Words_end : Stmt := inClass (top 26) 9
theorem sc_Words_end : FnScope ["self"] ["self"] (defScope s_Words_end) := ⟨rfl, rfl, rfl, by decide +kernel, rfl, by decide +kernel, by decide +kernel⟩
def d_Words_end : He5.DefA := ⟨fun K => He.ma K (He.ga K "Words") "end", "end", "Words.end", defArgs s_Words_end, defBody s_Words_end, defScope s_Words_end, [], []⟩
abbrev s_Shape_init : Stmt := inClass (top 31) 0
theorem sc_Shape_init : FnScope ["self", "keys", "days", "key", "day", "index", "place"] ["self", "keys", "days"] (defScope s_Shape_init) := ⟨rfl, rfl, rfl, by decide +kernel, rfl, by decide +kernel, by decide +kernel⟩
def d_Shape_init : He5.DefA := ⟨fun K => He.ma K (He.ga K "Shape") "__init__", "__init__", "Shape.__init__", defArgs s_Shape_init, defBody s_Shape_init, defScope s_Shape_init, [], []⟩
abbrev s_Shape_index_of : Stmt := inClass (top 31) 1
theorem sc_Shape_index_of : FnScope ["self", "place"] ["self", "place"] (defScope s_Shape_index_of) := ⟨rfl, rfl, rfl, by decide +kernel, rfl, by decide +kernel, by decide +kernel⟩
def d_Shape_index_of : He5.DefA := ⟨fun K => He.ma K (He.ga K "Shape") "index_of", "index_of", "Shape.index_of", defArgs s_Shape_index_of, defBody s_Shape_index_of, defScope s_Shape_index_of, [], []⟩
abbrev s_Shape_len : Stmt := inClass (top 31) 2
theorem sc_Shape_len : FnScope ["self"] ["self"] (defScope s_Shape_len) := ⟨rfl, rfl, rfl, by decide +kernel, rfl, by decide +kernel, by decide +kernel⟩
def d_Shape_len : He5.DefA := ⟨fun K => He.ma K (He.ga K "Shape") "__len__", "__len__", "Shape.__len__", defArgs s_Shape_len, defBody s_Shape_len, defScope s_Shape_len, [], []⟩
abbrev s_Shape_iter : Stmt := inClass (top 31) 3
theorem sc_Shape_iter : FnScope ["self"] ["self"] (defScope s_Shape_iter) := ⟨rfl, rfl, rfl, by decide +kernel, rfl, by decide +kernel, by decide +kernel⟩
def d_Shape_iter : He5.DefA := ⟨fun K => He.ma K (He.ga K "Shape") "__iter__", "__iter__", "Shape.__iter__", defArgs s_Shape_iter, defBody s_Shape_iter, defScope s_Shape_iter, [], []⟩
abbrev s_Shape_contains : Stmt := inClass (top 31) 4
theorem sc_Shape_contains : FnScope ["self", "x", "key", "day"] ["self", "x"] (defScope s_Shape_contains) := ⟨rfl, rfl, rfl, by decide +kernel, rfl, by decide +kernel, by decide +kernel⟩
def d_Shape_contains : He5.DefA := ⟨fun K => He.ma K (He.ga K "Shape") "__contains__", "__contains__", "Shape.__contains__", defArgs s_Shape_contains, defBody s_Shape_contains, defScope s_Shape_contains, [], []⟩
abbrev s_Shape_getitem : Stmt := inClass (top 31) 5
theorem sc_Shape_getitem : FnScope ["self", "at"] ["self", "at"] (defScope s_Shape_getitem) := ⟨rfl, rfl, rfl, by decide +kernel, rfl, by decide +kernel, by decide +kernel⟩
def d_Shape_getitem : He5.DefA := ⟨fun K => He.ma K (He.ga K "Shape") "__getitem__", "__getitem__", "Shape.__getitem__", defArgs s_Shape_getitem, defBody s_Shape_getitem, defScope s_Shape_getitem, [], []⟩
abbrev s_Shape_or : Stmt := inClass (top 31) 6
theorem sc_Shape_or : FnScope ["self", "other", "more", "key"] ["self", "other"] (defScope s_Shape_or) := ⟨rfl, rfl, rfl, by decide +kernel, rfl, by decide +kernel, by decide +kernel⟩
def d_Shape_or : He5.DefA := ⟨fun K => He.ma K (He.ga K "Shape") "__or__", "__or__", "Shape.__or__", defArgs s_Shape_or, defBody s_Shape_or, defScope s_Shape_or, [], []⟩
abbrev s_Shape_le : Stmt := inClass (top 31) 7
theorem sc_Shape_le : FnScope ["self", "other", "held", "key"] ["self", "other"] (defScope s_Shape_le) := ⟨rfl, rfl, rfl, by decide +kernel, rfl, by decide +kernel, by decide +kernel⟩
def d_Shape_le : He5.DefA := ⟨fun K => He.ma K (He.ga K "Shape") "__le__", "__le__", "Shape.__le__", defArgs s_Shape_le, defBody s_Shape_le, defScope s_Shape_le, [], []⟩
abbrev s_Shape_lt : Stmt := inClass (top 31) 8
theorem sc_Shape_lt : FnScope ["self", "other"] ["self", "other"] (defScope s_Shape_lt) := ⟨rfl, rfl, rfl, by decide +kernel, rfl, by decide +kernel, by decide +kernel⟩
def d_Shape_lt : He5.DefA := ⟨fun K => He.ma K (He.ga K "Shape") "__lt__", "__lt__", "Shape.__lt__", defArgs s_Shape_lt, defBody s_Shape_lt, defScope s_Shape_lt, [], []⟩
abbrev s_Shape_eq : Stmt := inClass (top 31) 9
theorem sc_Shape_eq : FnScope ["self", "other"] ["self", "other"] (defScope s_Shape_eq) := ⟨rfl, rfl, rfl, by decide +kernel, rfl, by decide +kernel, by decide +kernel⟩
def d_Shape_eq : He5.DefA := ⟨fun K => He.ma K (He.ga K "Shape") "__eq__", "__eq__", "Shape.__eq__", defArgs s_Shape_eq, defBody s_Shape_eq, defScope s_Shape_eq, [], []⟩
abbrev s_Shape_str : Stmt := inClass (top 31) 10
theorem sc_Shape_str : FnScope ["self"] ["self"] (defScope s_Shape_str) := ⟨rfl, rfl, rfl, by decide +kernel, rfl, by decide +kernel, by decide +kernel⟩
def d_Shape_str : He5.DefA := ⟨fun K => He.ma K (He.ga K "Shape") "__str__", "__str__", "Shape.__str__", defArgs s_Shape_str, defBody s_Shape_str, defScope s_Shape_str, [], []⟩
abbrev s_Part_init : Stmt := inClass (top 37) 0
theorem sc_Part_init : FnScope ["self", "shape", "places", "held", "place"] ["self", "shape", "places"] (defScope s_Part_init) := ⟨rfl, rfl, rfl, by decide +kernel, rfl, by decide +kernel, by decide +kernel⟩
def d_Part_init : He5.DefA := ⟨fun K => He.ma K (He.ga K "Part") "__init__", "__init__", "Part.__init__", defArgs s_Part_init, defBody s_Part_init, defScope s_Part_init, [], []⟩
abbrev s_Part_none : Stmt := inClass (top 37) 2
theorem sc_Part_none : FnScope ["shape"] ["shape"] (defScope s_Part_none) := ⟨rfl, rfl, rfl, by decide +kernel, rfl, by decide +kernel, by decide +kernel⟩
def d_Part_none : He5.DefA := ⟨fun K => smA K (He.ga K "Part") "none", "none", "Part.none", defArgs s_Part_none, defBody s_Part_none, defScope s_Part_none, [], []⟩
abbrev s_Part_len : Stmt := inClass (top 37) 5
theorem sc_Part_len : FnScope ["self"] ["self"] (defScope s_Part_len) := ⟨rfl, rfl, rfl, by decide +kernel, rfl, by decide +kernel, by decide +kernel⟩
def d_Part_len : He5.DefA := ⟨fun K => He.ma K (He.ga K "Part") "__len__", "__len__", "Part.__len__", defArgs s_Part_len, defBody s_Part_len, defScope s_Part_len, [], []⟩
abbrev s_Part_bool : Stmt := inClass (top 37) 6
theorem sc_Part_bool : FnScope ["self"] ["self"] (defScope s_Part_bool) := ⟨rfl, rfl, rfl, by decide +kernel, rfl, by decide +kernel, by decide +kernel⟩
def d_Part_bool : He5.DefA := ⟨fun K => He.ma K (He.ga K "Part") "__bool__", "__bool__", "Part.__bool__", defArgs s_Part_bool, defBody s_Part_bool, defScope s_Part_bool, [], []⟩
abbrev s_Part_iter : Stmt := inClass (top 37) 7
theorem sc_Part_iter : FnScope ["self"] ["self"] (defScope s_Part_iter) := ⟨rfl, rfl, rfl, by decide +kernel, rfl, by decide +kernel, by decide +kernel⟩
def d_Part_iter : He5.DefA := ⟨fun K => He.ma K (He.ga K "Part") "__iter__", "__iter__", "Part.__iter__", defArgs s_Part_iter, defBody s_Part_iter, defScope s_Part_iter, [], []⟩
abbrev s_Part_contains : Stmt := inClass (top 37) 8
theorem sc_Part_contains : FnScope ["self", "x"] ["self", "x"] (defScope s_Part_contains) := ⟨rfl, rfl, rfl, by decide +kernel, rfl, by decide +kernel, by decide +kernel⟩
def d_Part_contains : He5.DefA := ⟨fun K => He.ma K (He.ga K "Part") "__contains__", "__contains__", "Part.__contains__", defArgs s_Part_contains, defBody s_Part_contains, defScope s_Part_contains, [], []⟩
abbrev s_Part_getitem : Stmt := inClass (top 37) 9
theorem sc_Part_getitem : FnScope ["self", "at"] ["self", "at"] (defScope s_Part_getitem) := ⟨rfl, rfl, rfl, by decide +kernel, rfl, by decide +kernel, by decide +kernel⟩
def d_Part_getitem : He5.DefA := ⟨fun K => He.ma K (He.ga K "Part") "__getitem__", "__getitem__", "Part.__getitem__", defArgs s_Part_getitem, defBody s_Part_getitem, defScope s_Part_getitem, [], []⟩
abbrev s_Part_and : Stmt := inClass (top 37) 10
theorem sc_Part_and : FnScope ["self", "other", "places", "place"] ["self", "other"] (defScope s_Part_and) := ⟨rfl, rfl, rfl, by decide +kernel, rfl, by decide +kernel, by decide +kernel⟩
def d_Part_and : He5.DefA := ⟨fun K => He.ma K (He.ga K "Part") "__and__", "__and__", "Part.__and__", defArgs s_Part_and, defBody s_Part_and, defScope s_Part_and, [], []⟩
abbrev s_Part_or : Stmt := inClass (top 37) 11
theorem sc_Part_or : FnScope ["self", "other", "places"] ["self", "other"] (defScope s_Part_or) := ⟨rfl, rfl, rfl, by decide +kernel, rfl, by decide +kernel, by decide +kernel⟩
def d_Part_or : He5.DefA := ⟨fun K => He.ma K (He.ga K "Part") "__or__", "__or__", "Part.__or__", defArgs s_Part_or, defBody s_Part_or, defScope s_Part_or, [], []⟩
abbrev s_Part_sub : Stmt := inClass (top 37) 12
theorem sc_Part_sub : FnScope ["self", "other", "places", "place"] ["self", "other"] (defScope s_Part_sub) := ⟨rfl, rfl, rfl, by decide +kernel, rfl, by decide +kernel, by decide +kernel⟩
def d_Part_sub : He5.DefA := ⟨fun K => He.ma K (He.ga K "Part") "__sub__", "__sub__", "Part.__sub__", defArgs s_Part_sub, defBody s_Part_sub, defScope s_Part_sub, [], []⟩
abbrev s_Part_xor : Stmt := inClass (top 37) 13
theorem sc_Part_xor : FnScope ["self", "other"] ["self", "other"] (defScope s_Part_xor) := ⟨rfl, rfl, rfl, by decide +kernel, rfl, by decide +kernel, by decide +kernel⟩
def d_Part_xor : He5.DefA := ⟨fun K => He.ma K (He.ga K "Part") "__xor__", "__xor__", "Part.__xor__", defArgs s_Part_xor, defBody s_Part_xor, defScope s_Part_xor, [], []⟩
abbrev s_Part_invert : Stmt := inClass (top 37) 14
theorem sc_Part_invert : FnScope ["self", "places", "place"] ["self"] (defScope s_Part_invert) := ⟨rfl, rfl, rfl, by decide +kernel, rfl, by decide +kernel, by decide +kernel⟩
def d_Part_invert : He5.DefA := ⟨fun K => He.ma K (He.ga K "Part") "__invert__", "__invert__", "Part.__invert__", defArgs s_Part_invert, defBody s_Part_invert, defScope s_Part_invert, [], []⟩
abbrev s_Part_le : Stmt := inClass (top 37) 15
theorem sc_Part_le : FnScope ["self", "other", "place"] ["self", "other"] (defScope s_Part_le) := ⟨rfl, rfl, rfl, by decide +kernel, rfl, by decide +kernel, by decide +kernel⟩
def d_Part_le : He5.DefA := ⟨fun K => He.ma K (He.ga K "Part") "__le__", "__le__", "Part.__le__", defArgs s_Part_le, defBody s_Part_le, defScope s_Part_le, [], []⟩
abbrev s_Part_lt : Stmt := inClass (top 37) 16
theorem sc_Part_lt : FnScope ["self", "other"] ["self", "other"] (defScope s_Part_lt) := ⟨rfl, rfl, rfl, by decide +kernel, rfl, by decide +kernel, by decide +kernel⟩
def d_Part_lt : He5.DefA := ⟨fun K => He.ma K (He.ga K "Part") "__lt__", "__lt__", "Part.__lt__", defArgs s_Part_lt, defBody s_Part_lt, defScope s_Part_lt, [], []⟩
abbrev s_Part_eq : Stmt := inClass (top 37) 17
theorem sc_Part_eq : FnScope ["self", "other"] ["self", "other"] (defScope s_Part_eq) := ⟨rfl, rfl, rfl, by decide +kernel, rfl, by decide +kernel, by decide +kernel⟩
def d_Part_eq : He5.DefA := ⟨fun K => He.ma K (He.ga K "Part") "__eq__", "__eq__", "Part.__eq__", defArgs s_Part_eq, defBody s_Part_eq, defScope s_Part_eq, [], []⟩
abbrev s_Part_str : Stmt := inClass (top 37) 18
theorem sc_Part_str : FnScope ["self", "key", "day"] ["self"] (defScope s_Part_str) := ⟨rfl, rfl, rfl, by decide +kernel, rfl, by decide +kernel, by decide +kernel⟩
def d_Part_str : He5.DefA := ⟨fun K => He.ma K (He.ga K "Part") "__str__", "__str__", "Part.__str__", defArgs s_Part_str, defBody s_Part_str, defScope s_Part_str, [], []⟩
abbrev s_Table_init : Stmt := inClass (top 46) 0
theorem sc_Table_init : FnScope ["self", "shape", "amounts", "given", "place"] ["self", "shape", "amounts"] (defScope s_Table_init) := ⟨rfl, rfl, rfl, by decide +kernel, rfl, by decide +kernel, by decide +kernel⟩
def d_Table_init : He5.DefA := ⟨fun K => He.ma K (He.ga K "Table") "__init__", "__init__", "Table.__init__", defArgs s_Table_init, defBody s_Table_init, defScope s_Table_init, [.non], []⟩
abbrev s_Table_of : Stmt := inClass (top 46) 1
theorem sc_Table_of : FnScope ["shape", "rows", "amounts", "key", "day", "amount"] ["shape", "rows"] (defScope s_Table_of) := ⟨rfl, rfl, rfl, by decide +kernel, rfl, by decide +kernel, by decide +kernel⟩
def d_Table_of : He5.DefA := ⟨fun K => smA K (He.ga K "Table") "of", "of", "Table.of", defArgs s_Table_of, defBody s_Table_of, defScope s_Table_of, [], []⟩
abbrev s_Table_len : Stmt := inClass (top 46) 3
theorem sc_Table_len : FnScope ["self"] ["self"] (defScope s_Table_len) := ⟨rfl, rfl, rfl, by decide +kernel, rfl, by decide +kernel, by decide +kernel⟩
def d_Table_len : He5.DefA := ⟨fun K => He.ma K (He.ga K "Table") "__len__", "__len__", "Table.__len__", defArgs s_Table_len, defBody s_Table_len, defScope s_Table_len, [], []⟩
abbrev s_Table_bool : Stmt := inClass (top 46) 4
theorem sc_Table_bool : FnScope ["self"] ["self"] (defScope s_Table_bool) := ⟨rfl, rfl, rfl, by decide +kernel, rfl, by decide +kernel, by decide +kernel⟩
def d_Table_bool : He5.DefA := ⟨fun K => He.ma K (He.ga K "Table") "__bool__", "__bool__", "Table.__bool__", defArgs s_Table_bool, defBody s_Table_bool, defScope s_Table_bool, [], []⟩
abbrev s_Table_iter : Stmt := inClass (top 46) 5
theorem sc_Table_iter : FnScope ["self"] ["self"] (defScope s_Table_iter) := ⟨rfl, rfl, rfl, by decide +kernel, rfl, by decide +kernel, by decide +kernel⟩
def d_Table_iter : He5.DefA := ⟨fun K => He.ma K (He.ga K "Table") "__iter__", "__iter__", "Table.__iter__", defArgs s_Table_iter, defBody s_Table_iter, defScope s_Table_iter, [], []⟩
abbrev s_Table_getitem : Stmt := inClass (top 46) 6
theorem sc_Table_getitem : FnScope ["self", "at"] ["self", "at"] (defScope s_Table_getitem) := ⟨rfl, rfl, rfl, by decide +kernel, rfl, by decide +kernel, by decide +kernel⟩
def d_Table_getitem : He5.DefA := ⟨fun K => He.ma K (He.ga K "Table") "__getitem__", "__getitem__", "Table.__getitem__", defArgs s_Table_getitem, defBody s_Table_getitem, defScope s_Table_getitem, [], []⟩
abbrev s_Table_add : Stmt := inClass (top 46) 7
theorem sc_Table_add : FnScope ["self", "other", "place"] ["self", "other"] (defScope s_Table_add) := ⟨rfl, rfl, rfl, by decide +kernel, rfl, by decide +kernel, by decide +kernel⟩
def d_Table_add : He5.DefA := ⟨fun K => He.ma K (He.ga K "Table") "__add__", "__add__", "Table.__add__", defArgs s_Table_add, defBody s_Table_add, defScope s_Table_add, [], []⟩
abbrev s_Table_sub : Stmt := inClass (top 46) 8
theorem sc_Table_sub : FnScope ["self", "other", "place"] ["self", "other"] (defScope s_Table_sub) := ⟨rfl, rfl, rfl, by decide +kernel, rfl, by decide +kernel, by decide +kernel⟩
def d_Table_sub : He5.DefA := ⟨fun K => He.ma K (He.ga K "Table") "__sub__", "__sub__", "Table.__sub__", defArgs s_Table_sub, defBody s_Table_sub, defScope s_Table_sub, [], []⟩
abbrev s_Table_neg : Stmt := inClass (top 46) 9
theorem sc_Table_neg : FnScope ["self"] ["self"] (defScope s_Table_neg) := ⟨rfl, rfl, rfl, by decide +kernel, rfl, by decide +kernel, by decide +kernel⟩
def d_Table_neg : He5.DefA := ⟨fun K => He.ma K (He.ga K "Table") "__neg__", "__neg__", "Table.__neg__", defArgs s_Table_neg, defBody s_Table_neg, defScope s_Table_neg, [], []⟩
abbrev s_Table_mul : Stmt := inClass (top 46) 10
theorem sc_Table_mul : FnScope ["self", "other"] ["self", "other"] (defScope s_Table_mul) := ⟨rfl, rfl, rfl, by decide +kernel, rfl, by decide +kernel, by decide +kernel⟩
def d_Table_mul : He5.DefA := ⟨fun K => He.ma K (He.ga K "Table") "__mul__", "__mul__", "Table.__mul__", defArgs s_Table_mul, defBody s_Table_mul, defScope s_Table_mul, [], []⟩
abbrev s_Table_rmul : Stmt := inClass (top 46) 11
theorem sc_Table_rmul : FnScope ["self", "other"] ["self", "other"] (defScope s_Table_rmul) := ⟨rfl, rfl, rfl, by decide +kernel, rfl, by decide +kernel, by decide +kernel⟩
def d_Table_rmul : He5.DefA := ⟨fun K => He.ma K (He.ga K "Table") "__rmul__", "__rmul__", "Table.__rmul__", defArgs s_Table_rmul, defBody s_Table_rmul, defScope s_Table_rmul, [], []⟩
abbrev s_Table_and : Stmt := inClass (top 46) 12
theorem sc_Table_and : FnScope ["self", "other", "place"] ["self", "other"] (defScope s_Table_and) := ⟨rfl, rfl, rfl, by decide +kernel, rfl, by decide +kernel, by decide +kernel⟩
def d_Table_and : He5.DefA := ⟨fun K => He.ma K (He.ga K "Table") "__and__", "__and__", "Table.__and__", defArgs s_Table_and, defBody s_Table_and, defScope s_Table_and, [], []⟩
abbrev s_Table_eq : Stmt := inClass (top 46) 13
theorem sc_Table_eq : FnScope ["self", "other"] ["self", "other"] (defScope s_Table_eq) := ⟨rfl, rfl, rfl, by decide +kernel, rfl, by decide +kernel, by decide +kernel⟩
def d_Table_eq : He5.DefA := ⟨fun K => He.ma K (He.ga K "Table") "__eq__", "__eq__", "Table.__eq__", defArgs s_Table_eq, defBody s_Table_eq, defScope s_Table_eq, [], []⟩
abbrev s_Table_str : Stmt := inClass (top 46) 14
theorem sc_Table_str : FnScope ["self", "key", "day"] ["self"] (defScope s_Table_str) := ⟨rfl, rfl, rfl, by decide +kernel, rfl, by decide +kernel, by decide +kernel⟩
def d_Table_str : He5.DefA := ⟨fun K => He.ma K (He.ga K "Table") "__str__", "__str__", "Table.__str__", defArgs s_Table_str, defBody s_Table_str, defScope s_Table_str, [], []⟩
abbrev s_Question_init : Stmt := inClass (top 59) 0
theorem sc_Question_init : FnScope ["self", "shape", "weights", "places", "place"] ["self", "shape", "weights"] (defScope s_Question_init) := ⟨rfl, rfl, rfl, by decide +kernel, rfl, by decide +kernel, by decide +kernel⟩
def d_Question_init : He5.DefA := ⟨fun K => He.ma K (He.ga K "Question") "__init__", "__init__", "Question.__init__", defArgs s_Question_init, defBody s_Question_init, defScope s_Question_init, [], []⟩
abbrev s_Question_of : Stmt := inClass (top 59) 1
theorem sc_Question_of : FnScope ["part", "place"] ["part"] (defScope s_Question_of) := ⟨rfl, rfl, rfl, by decide +kernel, rfl, by decide +kernel, by decide +kernel⟩
def d_Question_of : He5.DefA := ⟨fun K => smA K (He.ga K "Question") "of", "of", "Question.of", defArgs s_Question_of, defBody s_Question_of, defScope s_Question_of, [], []⟩
abbrev s_Question_none : Stmt := inClass (top 59) 2
theorem sc_Question_none : FnScope ["shape"] ["shape"] (defScope s_Question_none) := ⟨rfl, rfl, rfl, by decide +kernel, rfl, by decide +kernel, by decide +kernel⟩
def d_Question_none : He5.DefA := ⟨fun K => smA K (He.ga K "Question") "none", "none", "Question.none", defArgs s_Question_none, defBody s_Question_none, defScope s_Question_none, [], []⟩
abbrev s_Question_call : Stmt := inClass (top 59) 4
theorem sc_Question_call : FnScope ["self", "table", "place", "weight"] ["self", "table"] (defScope s_Question_call) := ⟨rfl, rfl, rfl, by decide +kernel, rfl, by decide +kernel, by decide +kernel⟩
def d_Question_call : He5.DefA := ⟨fun K => He.ma K (He.ga K "Question") "__call__", "__call__", "Question.__call__", defArgs s_Question_call, defBody s_Question_call, defScope s_Question_call, [], []⟩
abbrev s_Question_bool : Stmt := inClass (top 59) 5
theorem sc_Question_bool : FnScope ["self"] ["self"] (defScope s_Question_bool) := ⟨rfl, rfl, rfl, by decide +kernel, rfl, by decide +kernel, by decide +kernel⟩
def d_Question_bool : He5.DefA := ⟨fun K => He.ma K (He.ga K "Question") "__bool__", "__bool__", "Question.__bool__", defArgs s_Question_bool, defBody s_Question_bool, defScope s_Question_bool, [], []⟩
abbrev s_Question_iter : Stmt := inClass (top 59) 6
theorem sc_Question_iter : FnScope ["self"] ["self"] (defScope s_Question_iter) := ⟨rfl, rfl, rfl, by decide +kernel, rfl, by decide +kernel, by decide +kernel⟩
def d_Question_iter : He5.DefA := ⟨fun K => He.ma K (He.ga K "Question") "__iter__", "__iter__", "Question.__iter__", defArgs s_Question_iter, defBody s_Question_iter, defScope s_Question_iter, [], []⟩
abbrev s_Question_getitem : Stmt := inClass (top 59) 7
theorem sc_Question_getitem : FnScope ["self", "at"] ["self", "at"] (defScope s_Question_getitem) := ⟨rfl, rfl, rfl, by decide +kernel, rfl, by decide +kernel, by decide +kernel⟩
def d_Question_getitem : He5.DefA := ⟨fun K => He.ma K (He.ga K "Question") "__getitem__", "__getitem__", "Question.__getitem__", defArgs s_Question_getitem, defBody s_Question_getitem, defScope s_Question_getitem, [], []⟩
abbrev s_Question_add : Stmt := inClass (top 59) 8
theorem sc_Question_add : FnScope ["self", "other", "place"] ["self", "other"] (defScope s_Question_add) := ⟨rfl, rfl, rfl, by decide +kernel, rfl, by decide +kernel, by decide +kernel⟩
def d_Question_add : He5.DefA := ⟨fun K => He.ma K (He.ga K "Question") "__add__", "__add__", "Question.__add__", defArgs s_Question_add, defBody s_Question_add, defScope s_Question_add, [], []⟩
abbrev s_Question_sub : Stmt := inClass (top 59) 9
theorem sc_Question_sub : FnScope ["self", "other", "place"] ["self", "other"] (defScope s_Question_sub) := ⟨rfl, rfl, rfl, by decide +kernel, rfl, by decide +kernel, by decide +kernel⟩
def d_Question_sub : He5.DefA := ⟨fun K => He.ma K (He.ga K "Question") "__sub__", "__sub__", "Question.__sub__", defArgs s_Question_sub, defBody s_Question_sub, defScope s_Question_sub, [], []⟩
abbrev s_Question_neg : Stmt := inClass (top 59) 10
theorem sc_Question_neg : FnScope ["self"] ["self"] (defScope s_Question_neg) := ⟨rfl, rfl, rfl, by decide +kernel, rfl, by decide +kernel, by decide +kernel⟩
def d_Question_neg : He5.DefA := ⟨fun K => He.ma K (He.ga K "Question") "__neg__", "__neg__", "Question.__neg__", defArgs s_Question_neg, defBody s_Question_neg, defScope s_Question_neg, [], []⟩
abbrev s_Question_mul : Stmt := inClass (top 59) 11
theorem sc_Question_mul : FnScope ["self", "other"] ["self", "other"] (defScope s_Question_mul) := ⟨rfl, rfl, rfl, by decide +kernel, rfl, by decide +kernel, by decide +kernel⟩
def d_Question_mul : He5.DefA := ⟨fun K => He.ma K (He.ga K "Question") "__mul__", "__mul__", "Question.__mul__", defArgs s_Question_mul, defBody s_Question_mul, defScope s_Question_mul, [], []⟩
abbrev s_Question_rmul : Stmt := inClass (top 59) 12
theorem sc_Question_rmul : FnScope ["self", "other"] ["self", "other"] (defScope s_Question_rmul) := ⟨rfl, rfl, rfl, by decide +kernel, rfl, by decide +kernel, by decide +kernel⟩
def d_Question_rmul : He5.DefA := ⟨fun K => He.ma K (He.ga K "Question") "__rmul__", "__rmul__", "Question.__rmul__", defArgs s_Question_rmul, defBody s_Question_rmul, defScope s_Question_rmul, [], []⟩
abbrev s_Question_and : Stmt := inClass (top 59) 13
theorem sc_Question_and : FnScope ["self", "other", "place"] ["self", "other"] (defScope s_Question_and) := ⟨rfl, rfl, rfl, by decide +kernel, rfl, by decide +kernel, by decide +kernel⟩
def d_Question_and : He5.DefA := ⟨fun K => He.ma K (He.ga K "Question") "__and__", "__and__", "Question.__and__", defArgs s_Question_and, defBody s_Question_and, defScope s_Question_and, [], []⟩
abbrev s_Question_xor : Stmt := inClass (top 59) 14
theorem sc_Question_xor : FnScope ["self", "other", "places", "place"] ["self", "other"] (defScope s_Question_xor) := ⟨rfl, rfl, rfl, by decide +kernel, rfl, by decide +kernel, by decide +kernel⟩
def d_Question_xor : He5.DefA := ⟨fun K => He.ma K (He.ga K "Question") "__xor__", "__xor__", "Question.__xor__", defArgs s_Question_xor, defBody s_Question_xor, defScope s_Question_xor, [], []⟩
abbrev s_Question_eq : Stmt := inClass (top 59) 15
theorem sc_Question_eq : FnScope ["self", "other"] ["self", "other"] (defScope s_Question_eq) := ⟨rfl, rfl, rfl, by decide +kernel, rfl, by decide +kernel, by decide +kernel⟩
def d_Question_eq : He5.DefA := ⟨fun K => He.ma K (He.ga K "Question") "__eq__", "__eq__", "Question.__eq__", defArgs s_Question_eq, defBody s_Question_eq, defScope s_Question_eq, [], []⟩
abbrev s_Question_str : Stmt := inClass (top 59) 16
theorem sc_Question_str : FnScope ["self", "key", "day"] ["self"] (defScope s_Question_str) := ⟨rfl, rfl, rfl, by decide +kernel, rfl, by decide +kernel, by decide +kernel⟩
def d_Question_str : He5.DefA := ⟨fun K => He.ma K (He.ga K "Question") "__str__", "__str__", "Question.__str__", defArgs s_Question_str, defBody s_Question_str, defScope s_Question_str, [], []⟩
abbrev s_Question_read : Stmt := inClass (top 59) 17
theorem sc_Question_read : FnScope ["cls", "text", "shape", "weights", "words"] ["cls", "text", "shape"] (defScope s_Question_read) := ⟨rfl, rfl, rfl, by decide +kernel, rfl, by decide +kernel, by decide +kernel⟩
def d_Question_read : He5.DefA := ⟨fun K => cmA K (He.ga K "Question") "read", "read", "Question.read", defArgs s_Question_read, defBody s_Question_read, defScope s_Question_read, [], []⟩
def fn : List He5.DefA := ([d_is_whole, d_is_whole_from, d_is_name, d_whole_text, d_is_whole_text, d_whole_of, d_words_of, d_are_keys, d_take_place, d_check_places, d_check_amounts, d_take_weight, d_take_weights, d_law_pen, d_law_draw, d_law_pick, d_law_shape, d_law_weights, d_law_is_number, d_law_place_wrong] : List He5.DefA) ++ ([d_law_day, d_law_rows_wrong, d_law_text, d_law_heard, d_law_bent, d_law_right, d_law, d_check_shape_parts, d_check_shape_questions, d_BadShape, d_BadTable, d_BadPart, d_BadQuestion, d_BadPlace, d_BadAmount, d_BadCount, d_BadText, d_TooMany, d_Words_init, d_Words_refuse] : List He5.DefA) ++ ([d_Words_peek, d_Words_behind, d_Words_behind_one, d_Words_take_one, d_Words_is_at_whole, d_Words_take_whole, d_Words_end, d_Shape_init, d_Shape_index_of, d_Shape_contains, d_Shape_eq, d_Part_init, d_Question_init, d_Question_getitem, d_Question_eq, d_Question_str, d_Question_read] : List He5.DefA)
/-- the error classes, by their places in the text; of each the one above it -/
def nm : List Str := (["VaultError", "BadInput", "Refused", "BadShape", "BadTable", "BadPart", "BadQuestion", "BadPlace", "BadAmount", "BadCount", "BadText", "TooMany"] : List Str)
def up : List Nat := [0, 0, 0, 1, 1, 1, 1, 1, 1, 1, 1, 2]
/-- the i-th class stands below the j-th one, or is it -/
def isa (i j : Nat) : Bool := i == j || (up.getD i 0 == j || (up.getD (up.getD i 0) 0 == j))
def nmAt (i : Nat) : Str := nm.getD i Str.empty
def clsAll (K : PySem.W.Frag) : Bool := (List.range 12).all fun i => gloB K (nmAt i) && clsB K (He.ga K (nmAt i))
def noIni : List Str := (["VaultError", "BadInput", "Refused"] : List Str)
def inis : List (Str × List Str) := ([("BadShape", (["part"] : List Str)), ("BadTable", (["part"] : List Str)), ("BadPart", (["part"] : List Str)), ("BadQuestion", (["part"] : List Str)), ("BadPlace", (["value"] : List Str)), ("BadAmount", (["value"] : List Str)), ("BadCount", (["value"] : List Str)), ("BadText", (["line", "word"] : List Str)), ("TooMany", (["what", "most"] : List Str))] : List (Str × List Str))
def frees : List Str := (["ValueError", "abs", "all", "bool", "dict", "divmod", "enumerate", "int", "isinstance", "iter", "len", "list", "max", "range", "set", "sorted", "str", "sum", "tuple"] : List Str)
def fns : List Str := (["is_whole", "is_whole_from", "is_name", "whole_text", "is_whole_text", "whole_of", "words_of", "are_keys", "take_place", "check_places", "check_amounts", "take_weight", "take_weights", "_law_pen", "_law_draw", "_law_pick", "_law_shape", "_law_weights", "_law_is_number", "_law_place_wrong"] : List Str) ++ (["_law_day", "_law_rows_wrong", "_law_text", "_law_heard", "_law_bent", "_law_right", "law", "check_shape_parts", "check_shape_questions"] : List Str)
def fas : List He.Fa := ([.cls "Words", .glo "Words", .mkr "Words", .meth "Words" "refuse", .meth "Words" "peek", .meth "Words" "behind", .meth "Words" "behind_one", .meth "Words" "take_one", .meth "Words" "is_at_whole", .meth "Words" "take_whole", .meth "Words" "end", .noat "Words" "at", .noat "Words" "line", .noat "Words" "words", .cls "Shape", .glo "Shape", .mkr "Shape", .meth "Shape" "index_of", .meth "Shape" "__contains__", .meth "Shape" "__eq__"] : List He.Fa) ++ ([.noat "Shape" "days", .noat "Shape" "indexes", .noat "Shape" "key_names", .noat "Shape" "places", .cls "Part", .glo "Part", .mkr "Part", .noat "Part" "places", .noat "Part" "shape", .cls "Question", .glo "Question", .mkr "Question", .meth "Question" "__getitem__", .meth "Question" "__eq__", .meth "Question" "__str__", .noat "Question" "part", .noat "Question" "shape", .noat "Question" "weights", .glo "RESERVED", .int "MOST_LETTERS" 8] : List He.Fa) ++ ([.int "PIECE" 60, .int "MOST_KEYS" 6, .int "MOST_DAYS" 8, .int "MOST_PLACES" 36] : List He.Fa)
def tups : List (Str × List He.Dv) := [("RESERVED", [.str "days", .str "keys", .str "every", .str "leads", .str "sizes", .str "blocks", .str "pages", .str "cells", .str "buckets", .str "stripes", .str "block", .str "page", .str "cell", .str "bucket", .str "parity", .str "journal", .str "read", .str "given", .str "none", .str "order"])]
def dcts : List (Str × List (Str × He.Dv)) := []
def tabs : List TabN := dcts.map fun p => (p.1, p.2.map (·.1))
/-- the classes of the text that are no errors; their staticmethods -/
def own : List Str := ["Words", "Shape", "Part", "Question"]
def stat : List (Str × Str) := []
/-- classmethods of own classes -/
def cmts : List (Str × Str) := [("Question", "read")]
def chk (K : PySem.W.Frag) : Bool := clsAll K && (inis.all (fun p => iniB K p.1 p.2) && (noIni.all (fun x => PySem.W.excIn K (He.ga K x) He.veBase "ValueError.__new__") && (frees.all (freeB K) && (fns.all (gloB K) && (fas.all (He.Fa.ok K) && (tups.all (tupB K) && (dcts.all (fun p => He.valsB K (He.ga K p.1) p.2) && (own.all (ownsB K own) && (stat.all (fun p => smB K (He.ga K p.1) p.2) && cmts.all (fun p => cmB K (He.ga K p.1) p.2))))))))))
abbrev R : PySem.W.OpenRow := PySem.W.OpenLaw.row PySem.Challenge.rw_rowvault_k19_texts_of_questions
/-- the defs that make lambdas: their code tables -/
def tf : List He.Defn := [("_law_right", none), ("law", none)]
/-- what isinstance and except say of the errors that the law catches -/
def kinQ (K : PySem.W.Frag) : Bool := ([6, 10] : List Nat).all fun i => decide (PySem.W.exmOne K (.ref (He.ga K (nmAt i))) (.ref (He.ga K (nmAt 0))) = some true) && (decide (PySem.W.kitOne K (.ref (He.ga K (nmAt i))) (.type "ValueError") = some true) && ([6, 10] : List Nat).all fun j => decide (PySem.W.kitOne K (.ref (He.ga K (nmAt i))) (.ref (He.ga K (nmAt j))) = some (i == j)))
def chkL (K : PySem.W.Frag) : Bool := chk K && (kinQ K && decide ((tf.map fun p => (He.cT K p).2).Nodup))
abbrev hk : PySem.W.Hook := hookRA 4000 chkL fn tabs tf
def ob (s : PySem.W.SharedT) : AlA := obsRAG 4000 chkL fn tabs tf (HandSHeadRun.getT s)
theorem ob_eq (s : PySem.W.SharedT) : ob s = hk.obs s.abs := obsRAG_eq (HandSHeadRun.getT_eq s)
def loose0 : List PySem.Str := ["_wall", "RESERVED", "MOST_LETTERS", "is_whole", "is_whole_from", "is_name", "VaultError", "BadInput", "Refused", "BadShape", "BadTable", "BadPart", "BadQuestion", "BadPlace", "BadAmount", "BadCount", "BadText", "TooMany", "PIECE", "whole_text", "is_whole_text", "whole_of", "words_of", "Words"]
def loose1 : List PySem.Str := ["MOST_KEYS", "MOST_DAYS", "MOST_PLACES", "Shape", "are_keys", "take_shape", "is_key_behind", "take_place", "Part", "check_shape", "check_shape_parts", "check_places", "check_other", "check_other_parts", "is_part_of", "take_places", "Table", "check_shape_tables", "check_amounts", "check_rows", "check_other_tables", "is_table_of", "times", "times_tables"]
def loose2 : List PySem.Str := ["take_amounts", "take_weight", "Question", "check_shape_questions", "check_other_questions", "is_question_of", "times_questions", "take_weights", "_law_pen", "_law_draw", "_law_pick", "_law_shape", "_law_weights", "_law_bare", "_law_sum", "_law_some", "_law_part", "_law_is_number", "_law_place_wrong", "_law_day", "_law_rows_wrong", "_law_text", "_law_heard", "_law_bent"]
def loose3 : List PySem.Str := ["_law_right"]
abbrev loose : List PySem.Str := loose0 ++ loose1 ++ loose2 ++ loose3
end L2.K19
set_option Elab.async false
set_option linter.all false
set_option maxRecDepth 100000
set_option maxHeartbeats 4000000
/-! The run of the top, in parts. -/
namespace L2.K19
open PySem PySem.Spec PyProof.Rows L2.RV
noncomputable abbrev whole (b : Bool) (w : World) (os : PySem.OsState) := HandSHeadRun.endF (HandSHeadRun.stepQ (HandSHeadRun.denQ HandSHeadRun.tabQ) R.prog (fixW w "special-get-raises" b)) 20000 R.prog (fixW w "special-get-raises" b) os
abbrev frA (x : PySem.W.SharedT) : PySem.W.Frag := fragA (HandSHeadRun.getT x) 4000
set_option maxHeartbeats 0 in
theorem rFa (w : World) (os : PySem.OsState) : Option.map (fun x => (HandSHeadRun.looksF R.prog (PySem.W.boot_heap (fixW w "special-get-raises" false).params) x.abs, HandSHeadRun.seenQ (PySem.W.view R.prog [86]) loose (PySem.importedModules R.prog.main.body) (fun s => PySem.W.xlAt (PySem.W.view R.prog [86]) [] s && PySem.W.recOk R.records s) x.abs)) (whole false w os) = some (true, (PySem.W.openGood (PySem.W.view R.prog [86]) loose)) := by
  kernel_rfl
set_option maxHeartbeats 0 in
theorem rFb (w : World) (os : PySem.OsState) : Option.map (fun x => He.tabsB (HandSHeadRun.getT x) tf (frA x) && chkL (frA x)) (whole false w os) = some true := by
  kernel_rfl
set_option maxHeartbeats 0 in
theorem rFc (w : World) (os : PySem.OsState) : Option.map (fun x => ((fn.take 36).all (fun d => d.ok (frA x)), (ob x).1.2.take 36, (ob x).2)) (whole false w os) = some (true, (fn.take 36).map He5.DefA.val, tabs.map fun t => some (He.keysIn (fixW w "special-get-raises" false).params t.2)) := by
  kernel_rfl
set_option maxHeartbeats 0 in
theorem rFd (w : World) (os : PySem.OsState) : Option.map (fun x => ((fn.drop 36).all (fun d => d.ok (frA x)), (((ob x).1.2.drop 36).take 20, ((ob x).1.2.drop 36).drop 20))) (whole false w os) = some (true, ((((fn.drop 36).take 20).map He5.DefA.val), (((fn.drop 36).drop 20).map He5.DefA.val))) := by
  kernel_rfl
set_option maxHeartbeats 0 in
theorem rTa (w : World) (os : PySem.OsState) : Option.map (fun x => (HandSHeadRun.looksF R.prog (PySem.W.boot_heap (fixW w "special-get-raises" true).params) x.abs, HandSHeadRun.seenQ (PySem.W.view R.prog [86]) loose (PySem.importedModules R.prog.main.body) (fun s => PySem.W.xlAt (PySem.W.view R.prog [86]) [] s && PySem.W.recOk R.records s) x.abs)) (whole true w os) = some (true, (PySem.W.openGood (PySem.W.view R.prog [86]) loose)) := by
  kernel_rfl
set_option maxHeartbeats 0 in
theorem rTb (w : World) (os : PySem.OsState) : Option.map (fun x => He.tabsB (HandSHeadRun.getT x) tf (frA x) && chkL (frA x)) (whole true w os) = some true := by
  kernel_rfl
set_option maxHeartbeats 0 in
theorem rTc (w : World) (os : PySem.OsState) : Option.map (fun x => ((fn.take 36).all (fun d => d.ok (frA x)), (ob x).1.2.take 36, (ob x).2)) (whole true w os) = some (true, (fn.take 36).map He5.DefA.val, tabs.map fun t => some (He.keysIn (fixW w "special-get-raises" true).params t.2)) := by
  kernel_rfl
set_option maxHeartbeats 0 in
theorem rTd (w : World) (os : PySem.OsState) : Option.map (fun x => ((fn.drop 36).all (fun d => d.ok (frA x)), (((ob x).1.2.drop 36).take 20, ((ob x).1.2.drop 36).drop 20))) (whole true w os) = some (true, ((((fn.drop 36).take 20).map He5.DefA.val), (((fn.drop 36).drop 20).map He5.DefA.val))) := by
  kernel_rfl
theorem both {α β γ : Type _} {o : Option α} {f : α → β} {g : α → γ} {b : β} {c : γ} (h : Option.map (fun x => (f x, g x)) o = some (b, c)) : Option.map f o = some b ∧ Option.map g o = some c := by
  cases o with
  | none => cases h
  | some x =>
    have e := Prod.mk.inj (Option.some.inj h)
    exact ⟨congrArg some e.1, congrArg some e.2⟩
theorem glue {o : Option PySem.W.SharedT} {w : World} (rh : Option.map (fun s => HandSHeadRun.looksF R.prog (PySem.W.boot_heap w.params) s.abs) o = some true) (r0 : Option.map (fun s => HandSHeadRun.seenQ (PySem.W.view R.prog [86]) loose (PySem.importedModules R.prog.main.body) (fun s => PySem.W.xlAt (PySem.W.view R.prog [86]) [] s && PySem.W.recOk R.records s) s.abs) o = some (PySem.W.openGood (PySem.W.view R.prog [86]) loose))
    (r1 : Option.map (fun x => He.tabsB (HandSHeadRun.getT x) tf (frA x) && chkL (frA x)) o = some true) (r2 : Option.map (fun x => ((fn.take 36).all (fun d => d.ok (frA x)), (ob x).1.2.take 36, (ob x).2)) o = some (true, (fn.take 36).map He5.DefA.val, tabs.map fun t => some (He.keysIn w.params t.2))) (r3 : Option.map (fun x => (fn.drop 36).all (fun d => d.ok (frA x))) o = some true) (r4 : Option.map (fun x => ((ob x).1.2.drop 36).take 20) o = some (((fn.drop 36).take 20).map He5.DefA.val)) (r5 : Option.map (fun x => ((ob x).1.2.drop 36).drop 20) o = some (((fn.drop 36).drop 20).map He5.DefA.val)) :
    Option.map (fun s => (HandSHeadRun.looksF R.prog (PySem.W.boot_heap w.params) s.abs, HandSHeadRun.seenQ (PySem.W.view R.prog [86]) loose (PySem.importedModules R.prog.main.body) (fun s => PySem.W.xlAt (PySem.W.view R.prog [86]) [] s && PySem.W.recOk R.toRowW.records s) s.abs, ob s)) o = some (true, PySem.W.openGood (PySem.W.view R.prog [86]) loose, hk.val w) := by
  cases o with
  | none => cases r0
  | some x =>
    have a1 : HandSHeadRun.looksF R.prog (PySem.W.boot_heap w.params) x.abs = true := Option.some.inj rh
    have a2 := Option.some.inj r0
    have a3 : (He.tabsB (HandSHeadRun.getT x) tf (frA x) && chkL (frA x)) = true := Option.some.inj r1
    obtain ⟨c1, c3⟩ := Prod.mk.inj (Option.some.inj r2)
    obtain ⟨c3, b3⟩ := Prod.mk.inj c3
    have c2 : (fn.drop 36).all (fun d => d.ok (frA x)) = true := Option.some.inj r3
    have c4 : ((ob x).1.2.drop 36).take 20 = ((fn.drop 36).take 20).map He5.DefA.val := Option.some.inj r4
    have c5 : ((ob x).1.2.drop 36).drop 20 = ((fn.drop 36).drop 20).map He5.DefA.val := Option.some.inj r5
    have b1 : fn.all (fun d => d.ok (frA x)) = true := by
      rw [← List.take_append_drop 36 fn, List.all_append, c1, c2]
      rfl
    have b2 : (ob x).1.2 = fn.map He5.DefA.val := by
      have c6 := List.take_append_drop 20 ((ob x).1.2.drop 36)
      rw [c4, c5, ← List.map_append, List.take_append_drop] at c6
      have c7 := List.take_append_drop 36 (ob x).1.2
      rw [c3, ← c6, ← List.map_append, List.take_append_drop] at c7
      exact c7.symm
    have e : ob x = valRA fn tabs w := by
      refine Prod.ext (Prod.ext ?_ b2) b3
      obtain ⟨t, c⟩ := ba2 a3
      show (He.tabsB (HandSHeadRun.getT x) tf (frA x) && (chkL (frA x) && fn.all fun d => d.ok (frA x))) = true
      rw [t, c, b1]
      rfl
    rw [Option.map_some, a1, e]
    refine congrArg some (Prod.ext rfl (Prod.ext a2 rfl))
theorem run1 (b : Bool) (w : World) : HandSHeadRun.RunEq R (PySem.W.view R.prog [86]) hk ob 20000 loose (fixW w "special-get-raises" b) := by
  intro os
  cases b
  · exact glue (both (rFa w os)).1 (both (rFa w os)).2 (rFb w os) (rFc w os) (both (rFd w os)).1 (both (both (rFd w os)).2).1 (both (both (rFd w os)).2).2
  · exact glue (both (rTa w os)).1 (both (rTa w os)).2 (rTb w os) (rTc w os) (both (rTd w os)).1 (both (both (rTd w os)).2).1 (both (both (rTd w os)).2).2
theorem run (w : World) : HandSHeadRun.RunEq R (PySem.W.view R.prog [86]) hk ob 20000 loose w := by
  rw [fixW_eq w "special-get-raises"]
  exact run1 _ _
end L2.K19
set_option Elab.async false
set_option linter.all false
set_option maxRecDepth 100000
set_option maxHeartbeats 4000000
/-! A caught exception is kept: behind the try it stands as a value. -/
namespace L2.RV
open PySem PySem.Spec PyProof.Rows
/-- an exception of the class cls at a, its dict at d -/
def exk (cls : Value) (d : Option Addr) (a : Addr) : HO := .ext fun h => ∃ (oe : Obj) (vs : Array Value), h.get? a = some oe ∧ Zc cls d oe ∧ oe.data = .fields vs
theorem exk_ok {P : Program} {w : World} {H : Hp} {h : Heap} {a : Addr} {cls : Value} {d : Option Addr} {oe : Obj} {vs : Array Value} (e : h.get? a = some oe) (z : Zc cls d oe) (hd : oe.data = .fields vs) : ObjOk P w H h a (exk cls d a) :=
  ⟨⟨oe, vs, e, z, hd⟩, ⟨oe, e⟩, fun _ _ ⟨o, v, e1, z1, d1⟩ k => ⟨o, v, k _ e1, z1, d1⟩⟩
section
variable {X : Cx} {pins : List (Addr × Obj)} {σ : L2.St} {H : Hp} {s : Shared}
/-- a thing that is new since the entry, and not tracked as yet, is tracked from now on -/
theorem track {a : Addr} {o : HO} (I : Inv X pins σ H s) (h0 : X.s_0.heap.get? a = none) (hn : H a = none) (nl : a ≠ X.env.locals) (nc : ∀ x c, X.env.cells.lookup x = some c → c ≠ a) (np : ∀ p ∈ X.pn ++ pins, p.1 ≠ a)
    (new : ObjOk X.prog X.w (upd H a o) s.heap a o) : Inv X pins σ (upd H a o) s where
  ok := I.ok
  os := I.os
  bare := I.bare
  base := by
    have keep : ∀ b u, H b = some u → upd H a o b = some u := fun b u z => by
      rw [upd_ne (ne_of_none z hn)]
      exact z
    refine ⟨I.base.keep, I.base.slot, fun b u e n hx => ?_, I.base.there, fun b xs e => keep _ _ (I.base.tups b xs e), fun b x u e => keep _ _ (I.base.frzs b x u e), fun b ps e => ?_⟩
    · have ne : b ≠ a := fun z => by
        rw [z, h0] at e
        cases e
      rw [upd_ne ne]
      exact I.base.free b u e n hx
    · obtain ⟨more, z⟩ := I.base.tbls b ps e
      exact ⟨more, keep _ _ z⟩
  loc := I.loc
  cell := I.cell
  free := by
    rw [upd_ne (Ne.symm nl)]
    exact I.free
  freeC := fun x c e => by
    rw [upd_ne (nc x c e)]
    exact I.freeC x c e
  pin := fun p hp => by
    obtain ⟨a1, a2, a3⟩ := I.pin p hp
    refine ⟨a1, ?_, a3⟩
    rw [upd_ne (np p hp)]
    exact a2
  hok := fun b u e => by
    by_cases hb : b = a
    · subst hb
      rw [upd_same] at e
      cases e
      exact new
    · rw [upd_ne hb] at e
      refine (I.hok b u e).stay (fun _ _ _ z => z) (fun c z => ?_) (fun c xs z => ?_)
      · rw [upd_ne (ne_of_none z hn)]
        exact z
      · rw [upd_ne (ne_of_none z hn)]
        exact z
  len := I.len
end
/-- the wish of a try whose suite keeps what it caught -/
def wKeep (K : PySem.W.Frag) (c : Value) (i : Nat) (ts : Addr → Value → Option Addr → TS) (Wout : WX) (D : Ends) : WX := fun cls d σ H =>
  ∃ b, PySem.W.exmOne K cls c = some b ∧ (b = true → ∀ a, H a = none → ts a cls d { nx := fun σ' H' => H' a = none → D.nx (σ'.set i none) (upd H' a (exk cls d a)), rt := fun v H' => D.rt v H', bk := fun σ' H' => D.bk (σ'.set i none) H', ct := fun σ' H' => D.ct (σ'.set i none) H' } (σ.set i (some (.ref a))) H) ∧
    (b = false → Wout cls d σ H)
section
variable {X : Cx} {x n : Str} {c : Value} {i : Nat} {body suite : List Stmt} {b₀ : Stmt} {np pos pos' : Pos} {tb : WX → TS} {ts : Addr → Value → Option Addr → TS} {Wout : WX}
theorem ps_try_keep (hex : X.ex = []) (hs : X.stack = X.env :: X.outer) (hf : X.env.frame = some X.env.locals) (hN : X.N.Nodup) (hi : X.N[i]? = some n) (hln : X.env.kindOf n = some .local) (hc : Names X x c) (tk : Takes X Wout)
    (hb : ∀ (W : WX) (pn : List (Addr × Obj)) (xe : Value → Shared → Prop), Takes (X.tr pn xe) W → PassesOwn (model X.prog X.w) X.A X.env xe → PSs (X.tr pn xe) body (tb W))
    (hsu : ∀ (a : Addr) (oe : Obj) (cls : Value) (d : Option Addr) (pn : List (Addr × Obj)), Zc cls d oe → (∃ vs, oe.data = .fields vs) → PSs (X.suite a ((a, oe) :: pn)) (b₀ :: suite) (ts a cls d)) :
    PS X (.Try body [.ExceptHandler (some (.Name x np)) (some n) (b₀ :: suite) pos'] [] [] pos) (fun D σ H => tb (wKeep X.K c i ts Wout D) D σ H) := by
  refine ⟨fun pins s σ H D I h => ?_⟩
  have ok := I.ok
  have hfr : X.A.frames = some (X.env :: X.outer) := by rw [ok.frames, hs]
  have hloc : Loc X.env.scope n := .inl hln
  refine wpAny_Try_except ?_
  refine wpAny_mono ((hb (wKeep X.K c i ts Wout D) (X.pn ++ pins) (fun e s₁ => wpAny (model X.prog X.w) X.A (noteFrame e X.env) (fun _ s₂ => wpAny (model X.prog X.w) X.A (setFlight e none) (fun _ s₃ =>
    wpAny (model X.prog X.w) X.A (handleBy e X.env [.ExceptHandler (some (.Name x np)) (some n) (b₀ :: suite) pos']) (SP X pins D) X.xe s₃) X.xe s₂) X.xe s₁) (fun u s' xx => ?_) PassesOwn.looking).run [] s σ H D (I.toTry _) h) (fun f s1 hsp => ?_) (fun e s1 he => he)
  · obtain ⟨a, B, sI, pins', σ', H', cls, d, rfl, J', nb, up, sky, na, os, ag, b, hb1, hyes, hno⟩ := xx
    have J : Inv X pins σ' H' sI := J'.ofTry ok
    have sky' : Sky B (X.env :: X.outer) a (Zc cls d) X.env.locals s'.heap := by rw [← hs]; exact sky
    have bn : B.get? a = none := by
      rcases sky' with z | z | z
      · exact z.2.1
      · exact z.2.1
      · exact z.2.1
    show wpAny _ X.A (noteFrame (.ref a) X.env) _ _ _
    refine Sky.land Zc.steady hfr hf sky' fun h3 fl3 up3 => ?_
    have J3 : Inv X pins σ' H' { s' with heap := h3 } := J.landed nb fl3.1 (up.trans up3) os ag
    obtain ⟨oe3, vs3, he3, hz3, hd3⟩ := fl3.there
    have notFr : ∀ {h : Heap} {o : Obj} {vs : Array Value}, h.FunFrames B (X.env :: X.outer) → h.get? a = some o → o.data = .fields vs → a ∉ frs (X.env :: X.outer) := fun {h o vs} ff e dd hm => by
      obtain ⟨_, o', e', hnf⟩ := ff.mem hm
      rw [e] at e'; cases e'
      exact hnf _ dd
    have nfr := notFr fl3.2.2.1 he3 hd3
    have aI : sI.heap.get? a = none := by
      cases z : sI.heap.get? a with
      | none => rfl
      | some o =>
        have y := nb a o z (by rw [hs]; exact nfr)
        rw [bn] at y
        cases y
    have a0 : X.s_0.heap.get? a = none := by
      cases z : X.s_0.heap.get? a with
      | none => rfl
      | some o =>
        obtain ⟨o', y⟩ := J.base.there a o z (by rw [hex]; simp)
        rw [aI] at y
        cases y
    have nL : a ≠ X.env.locals := fun z => nfr (List.mem_filterMap.mpr ⟨X.env, List.mem_cons_self, by rw [hf, z]⟩)
    have nF : a ∉ X.fs := fun hm => by
      obtain ⟨e, he, q⟩ := List.mem_filterMap.mp hm
      exact nfr (List.mem_filterMap.mpr ⟨e, List.mem_cons_of_mem _ he, q⟩)
    have nP : ∀ p ∈ X.pn ++ pins, p.1 ≠ a := fun p hp z => by
      have y := (J.pin p hp).1
      rw [z, aI] at y
      cases y
    have S3 := J3.suite he3 hd3 na nL nF
    refine wpAny_handleBy_cons (codeAny_handlers_test ?_) (by intro q; cases q)
    have LT : PySem.W.Looks (model X.prog X.w) h3 (typeOf (.ref a)) cls := fun A Q E s k q => wpAny_typeOf_ref (k _ _ he3) (by rw [hz3.1]; exact q)
    have LM := PySem.W.exm_one (M := model X.prog X.w) (J3.kIn) LT hb1
    have test : ∀ {Q : Value → Shared → Prop} {E : Value → Shared → Prop}, Q c { s' with heap := h3 } → wpAny (model X.prog X.w) (X.A.mark (some (.ref a))) (eval (.Name x np) X.env) Q E { s' with heap := h3 } := fun {Q E} q => by
      obtain ⟨hg, hdbg, hm | ⟨hm, hv, hnn⟩⟩ := hc
      · exact ld_glob (X := X.suite a ((a, oe3) :: (X.pn ++ pins))) S3 hg hm q hdbg
      · exact ld_blt (X := X.suite a ((a, oe3) :: (X.pn ++ pins))) S3 hg hm hv q hnn hdbg
    refine test (LM.here ?_)
    cases b with
    | true =>
      refine codeAny_handlers_suite_as ?_
      refine HandSPX.lands_againZ fl3 fun h4 fl4 up4 => ?_
      have J4 : Inv X pins σ' H' { s' with heap := h4 } := J.landed nb fl4.1 ((up.trans up3).trans up4) os ag
      obtain ⟨oe4, vs4, he4, hz4, hd4⟩ := fl4.there
      have S4 := J4.suite he4 hd4 na nL nF
      refine store_ok (X := X.suite a ((a, oe4) :: (X.pn ++ pins))) (v := .ref a) S4 hN hi hloc rfl (fun s5 S5 => ?_) (.inr hln)
      refine wpAny_mono ((hsu a oe4 cls d (X.pn ++ pins) hz4 ⟨_, hd4⟩).run [] s5 _ H' _ S5 (hyes rfl a na)) (fun f s6 hsp => ?_) (fun _ _ z => False.elim z)
      have end_ : ∀ {σ6 : L2.St} {H6 : Hp} {Q : Shared → Prop}, Inv X pins σ6 H6 s6 → (∀ s7, Inv X pins (σ6.set i none) H6 s7 → Q s7) →
          wpAny (model X.prog X.w) X.A (do bindName X.env n .none; unbindBehindTheSuite X.env n pos') (fun _ s7 => Q s7) X.xe s6 := fun {σ6 H6 Q} S6 hq => gone_ok S6 hN hi hln hq
      cases f with
      | next =>
        obtain ⟨σ6, H6, S6, q6⟩ := hsp
        obtain ⟨p1, p2, p3, p4, p5⟩ := S6.pin (a, oe4) (by rw [List.append_nil]; exact List.mem_cons_self)
        have J6 := S6.unsuite ok
        have nC : ∀ y cc, X.env.cells.lookup y = some cc → cc ≠ a := fun y cc e z => by
          obtain ⟨v, hcell⟩ := J6.cell y cc e
          rw [z] at hcell
          obtain ⟨oc, g1, g2⟩ := hcell
          have g1' : s6.heap.get? a = some oc := g1
          have p1' : s6.heap.get? a = some oe4 := p1
          rw [p1'] at g1'
          cases g1'
          exact p5 v g2
        have T6 := track J6 a0 p2 nL nC nP (exk_ok (cls := cls) (d := d) p1 hz4 hd4)
        exact end_ T6 fun s7 J7 => ⟨_, _, J7, q6 p2⟩
      | brk =>
        obtain ⟨σ6, H6, S6, q6⟩ := hsp
        exact end_ (S6.unsuite ok) fun s7 J7 => ⟨_, _, J7, q6⟩
      | cont =>
        obtain ⟨σ6, H6, S6, q6⟩ := hsp
        exact end_ (S6.unsuite ok) fun s7 J7 => ⟨_, _, J7, q6⟩
      | ret u =>
        obtain ⟨v6, σ6, H6, S6, r6, q6⟩ := hsp
        exact end_ (S6.unsuite ok) fun s7 J7 => ⟨_, _, _, J7, r6, q6⟩
    | false =>
      show wpAny _ X.A (handleBy (.ref a) X.env []) _ _ _
      refine wpAny_handleBy_nil ?_
      obtain ⟨k1, k2, k3, oe, vs, T, oT, ts', he, hz, hd, h1, hr⟩ := id fl3
      unfold PySem.passOn
      refine wpAny_bind (wpAny_field he hd h1 ?_)
      rw [if_neg (show ¬ ((Value.ref T == Value.none) = true) from by simp)]
      have fin : wpAny (model X.prog X.w) X.A (setFlight (.ref a) X.env.frame) (fun _ s4 => wpAny (model X.prog X.w) X.A (throw (.ref a) : Sem Flow) (SP X pins D) X.xe s4) X.xe { s' with heap := h3 } := by
        rw [hf]
        refine HandSPX.setFlight_upZ fl3 fun h4 hh4 up4 => wpAny_throw (tk _ _ ?_)
        exact ⟨a, B, sI, pins, σ', H', cls, d, rfl, J, nb, (up.trans up3).trans up4, .inr (.inr (by rw [hs]; exact hh4)), na, os, ag, hno rfl⟩
      first
        | exact wpAny_bind (wpAny_pure (wpAny_bind fin))
        | exact wpAny_bind fin
  · cases f with
    | next =>
      obtain ⟨σ', H', J', q⟩ := hsp
      exact wpAny_execs_nil ⟨σ', H', J'.ofTry ok, q⟩
    | brk =>
      obtain ⟨σ', H', J', q⟩ := hsp
      exact ⟨σ', H', J'.ofTry ok, q⟩
    | cont =>
      obtain ⟨σ', H', J', q⟩ := hsp
      exact ⟨σ', H', J'.ofTry ok, q⟩
    | ret u =>
      obtain ⟨v, σ', H', J', r, q⟩ := hsp
      exact ⟨v, σ', H', J'.ofTry ok, r, q⟩
end
/-- a caught error stands at e, of the class at C; of its fields these are known -/
def ErrK (H : Hp) (e C : Addr) (l : List (Str × V)) : Prop := ∃ d, H e = some (exk (.ref C) (some d) e) ∧ ∃ fs, H d = some (.xd fs) ∧ ∀ f v, l.lookup f = some v → fs.lookup f = some v
theorem ErrK.same {H H' : Hp} {e C : Addr} {l : List (Str × V)} (x : ErrK H e C l) (s : Same H H') : ErrK H' e C l := by
  obtain ⟨d, a, fs, b, c⟩ := x
  exact ⟨d, s _ _ a, fs, s _ _ b, c⟩
section
variable {X : Cx} {pins : List (Addr × Obj)} {σ : L2.St} {H : Hp} {s : Shared} {e C : Addr} {l : List (Str × V)}
theorem ErrK.inst (x : ErrK H e C l) (I : Inv X pins σ H s) : ∃ ox o, PySem.W.InstAt s.heap e ox C (some o) ∧ ∀ f v, l.lookup f = some v → ∃ u, PySem.W.lookIn f o = some (some u) ∧ RelV v u := by
  obtain ⟨d, a, fs, b, c⟩ := x
  obtain ⟨⟨oe, vs, e1, z1, d1⟩, _, _⟩ := (show ObjOk X.prog X.w H s.heap e (exk (.ref C) (some d) e) from I.hok _ _ a)
  obtain ⟨mA, hns, rel⟩ := (show ObjOk X.prog X.w H s.heap d (.xd fs) from I.hok _ _ b)
  have hns1 : s.heap.Ns1 d mA := hns
  obtain ⟨o, hd, hl⟩ := lookIn_ns hns1
  refine ⟨oe, o, ⟨e1, z1.1, by unfold PySem.W.notCls; rw [d1], by rw [z1.2]; exact hd⟩, fun f v lk => ?_⟩
  have r := rel f
  rw [c f v lk] at r
  obtain ⟨u, hu, ru⟩ := RelO.some_of (v := v) (o := mA f) r
  exact ⟨u, by rw [hl, hu], ru⟩
end
/-- isinstance(e, c) of a caught error -/
def rIsK (K : PySem.W.Frag) : List V → Hp → VK → Prop := fun xs H Q => ∃ (e C : Addr) (l : List (Str × V)) (c : V) (cv : Value) (b : Bool), xs = [.ref e, c] ∧ ErrK H e C l ∧ ExcC K C ∧ (∀ u, RelV c u → u = cv) ∧ PySem.W.kitOne K (.ref C) cv = some b ∧ Q (.bl b) H
theorem call_isK {X : Cx} : CallR X (.builtin "isinstance") (rIsK X.K) := by
  intro pins s σ H xs us Q I r h
  obtain ⟨e, C, l, c, cv, b, rfl, at_, cl, hcv, k, q⟩ := h
  obtain ⟨u, u', rfl, ru, ru'⟩ := vals2 r
  cases ru
  obtain rfl := hcv _ ru'
  obtain ⟨ox, o, J, _⟩ := at_.inst I
  exact PySem.W.kia_one (kitE cl) I.kIn J k (fun z => nomatch z) fun tk => ⟨.bl b, H, I.kept (t' := tk) fun _ _ z => z, rfl, q⟩
/-- e.f of a caught error -/
def tErrK (K : PySem.W.Frag) (f : Str) (te : TE) : TE := fun σ H Q => te σ H fun x H1 => ∃ (e C : Addr) (l : List (Str × V)) (v : V), x = .ref e ∧ ErrK H1 e C l ∧ XfC K C ∧ PySem.W.findIn K (.ref C) f = some none ∧ l.lookup f = some v ∧ Q v H1
theorem pe_errK {X : Cx} {e : Expr} {te : TE} {pos : Pos} {f : Str} (he : PE X e te) (hb : attributeBase e f X.env (eval e X.env) = eval e X.env := by rfl) : PE X (.Attribute e f pos) (tErrK X.K f te) := by
  constructor
  intro pins s σ H Q I h
  apply attr_of hb
  refine thn (he.run pins s σ H _ I h) ?_
  rintro u s1 ⟨x, H1, I1, rx, e1, C, l, v, rfl, at_, T, no, lk, q⟩
  cases rx
  obtain ⟨ox, o, J, look⟩ := at_.inst I1
  obtain ⟨u, hu, ru⟩ := look _ _ lk
  exact HandSPX.exc_get I1.kIn J T.ga T.gg T.exC (PySem.W.findObj_own T.hdC no rfl hu) (handed_of ru) ⟨v, H1, I1.tok _, ru, q⟩
end L2.RV
set_option Elab.async false
set_option linter.all false
set_option maxRecDepth 100000
set_option maxHeartbeats 4000000
/-! What the top has left. -/
namespace L2.K19
open PySem PySem.Spec PyProof.Rows L2.RV
/-- the i-th error class stands here -/
def ca (K : PySem.W.Frag) (i : Nat) : Addr := He.ga K (nmAt i)
section
variable {w : World} {K : PySem.W.Frag} {h : Heap} {mg : Str → Option Value}
structure TopN (K : PySem.W.Frag) (mg : Str → Option Value) : Prop where
  n_ValueError : mg "ValueError" = none
  n_abs : mg "abs" = none
  n_all : mg "all" = none
  n_bool : mg "bool" = none
  n_dict : mg "dict" = none
  n_divmod : mg "divmod" = none
  n_enumerate : mg "enumerate" = none
  n_int : mg "int" = none
  n_isinstance : mg "isinstance" = none
  n_iter : mg "iter" = none
  n_len : mg "len" = none
  n_list : mg "list" = none
  n_max : mg "max" = none
  n_range : mg "range" = none
  n_set : mg "set" = none
  n_sorted : mg "sorted" = none
  n_str : mg "str" = none
  n_sum : mg "sum" = none
  n_tuple : mg "tuple" = none
theorem TopN.of (X : K.In h) (G : h.Ns mainGlobals mg) (a : frees.all (freeB K) = true) : TopN K mg := by
  exact {
    n_ValueError := freeB_ok X G (List.all_eq_true.mp a _ (List.mem_of_getElem? (i := 0) (by kernel_rfl)))
    n_abs := freeB_ok X G (List.all_eq_true.mp a _ (List.mem_of_getElem? (i := 1) (by kernel_rfl)))
    n_all := freeB_ok X G (List.all_eq_true.mp a _ (List.mem_of_getElem? (i := 2) (by kernel_rfl)))
    n_bool := freeB_ok X G (List.all_eq_true.mp a _ (List.mem_of_getElem? (i := 3) (by kernel_rfl)))
    n_dict := freeB_ok X G (List.all_eq_true.mp a _ (List.mem_of_getElem? (i := 4) (by kernel_rfl)))
    n_divmod := freeB_ok X G (List.all_eq_true.mp a _ (List.mem_of_getElem? (i := 5) (by kernel_rfl)))
    n_enumerate := freeB_ok X G (List.all_eq_true.mp a _ (List.mem_of_getElem? (i := 6) (by kernel_rfl)))
    n_int := freeB_ok X G (List.all_eq_true.mp a _ (List.mem_of_getElem? (i := 7) (by kernel_rfl)))
    n_isinstance := freeB_ok X G (List.all_eq_true.mp a _ (List.mem_of_getElem? (i := 8) (by kernel_rfl)))
    n_iter := freeB_ok X G (List.all_eq_true.mp a _ (List.mem_of_getElem? (i := 9) (by kernel_rfl)))
    n_len := freeB_ok X G (List.all_eq_true.mp a _ (List.mem_of_getElem? (i := 10) (by kernel_rfl)))
    n_list := freeB_ok X G (List.all_eq_true.mp a _ (List.mem_of_getElem? (i := 11) (by kernel_rfl)))
    n_max := freeB_ok X G (List.all_eq_true.mp a _ (List.mem_of_getElem? (i := 12) (by kernel_rfl)))
    n_range := freeB_ok X G (List.all_eq_true.mp a _ (List.mem_of_getElem? (i := 13) (by kernel_rfl)))
    n_set := freeB_ok X G (List.all_eq_true.mp a _ (List.mem_of_getElem? (i := 14) (by kernel_rfl)))
    n_sorted := freeB_ok X G (List.all_eq_true.mp a _ (List.mem_of_getElem? (i := 15) (by kernel_rfl)))
    n_str := freeB_ok X G (List.all_eq_true.mp a _ (List.mem_of_getElem? (i := 16) (by kernel_rfl)))
    n_sum := freeB_ok X G (List.all_eq_true.mp a _ (List.mem_of_getElem? (i := 17) (by kernel_rfl)))
    n_tuple := freeB_ok X G (List.all_eq_true.mp a _ (List.mem_of_getElem? (i := 18) (by kernel_rfl))) }
structure TopE (K : PySem.W.Frag) (mg : Str → Option Value) : Prop where
  c_VaultError : mg "VaultError" = some (.ref (ca K 0))
  c_BadInput : mg "BadInput" = some (.ref (ca K 1))
  c_Refused : mg "Refused" = some (.ref (ca K 2))
  c_BadShape : mg "BadShape" = some (.ref (ca K 3))
  c_BadTable : mg "BadTable" = some (.ref (ca K 4))
  c_BadPart : mg "BadPart" = some (.ref (ca K 5))
  c_BadQuestion : mg "BadQuestion" = some (.ref (ca K 6))
  c_BadPlace : mg "BadPlace" = some (.ref (ca K 7))
  c_BadAmount : mg "BadAmount" = some (.ref (ca K 8))
  c_BadCount : mg "BadCount" = some (.ref (ca K 9))
  c_BadText : mg "BadText" = some (.ref (ca K 10))
  c_TooMany : mg "TooMany" = some (.ref (ca K 11))
  ox : ∀ i, i < 12 → OexC K (ca K i)
  ex : ∀ i, i < 12 → ExcC K (ca K i) ∧ XfC K (ca K i)
theorem TopE.of (X : K.In h) (G : h.Ns mainGlobals mg) (a : clsAll K = true) : TopE K mg := by
  have one : ∀ i, i < 12 → gloB K (nmAt i) = true ∧ clsB K (ca K i) = true := fun i hi => ba2 (List.all_eq_true.mp a i (List.mem_range.mpr hi))
  have glo : ∀ i, i < 12 → mg (nmAt i) = some (.ref (ca K i)) := fun i hi => gloB_ok X G (one i hi).1
  exact {
    c_VaultError := glo 0 (by decide)
    c_BadInput := glo 1 (by decide)
    c_Refused := glo 2 (by decide)
    c_BadShape := glo 3 (by decide)
    c_BadTable := glo 4 (by decide)
    c_BadPart := glo 5 (by decide)
    c_BadQuestion := glo 6 (by decide)
    c_BadPlace := glo 7 (by decide)
    c_BadAmount := glo 8 (by decide)
    c_BadCount := glo 9 (by decide)
    c_BadText := glo 10 (by decide)
    c_TooMany := glo 11 (by decide)
    ox := fun i hi => (clsB_ok (one i hi).2).1
    ex := fun i hi => (clsB_ok (one i hi).2).2 }
structure TopX (K : PySem.W.Frag) (mg : Str → Option Value) : Prop where
  x_VaultError : PySem.W.excIn K (ca K 0) He.veBase "ValueError.__new__" = true
  x_BadInput : PySem.W.excIn K (ca K 1) He.veBase "ValueError.__new__" = true
  x_Refused : PySem.W.excIn K (ca K 2) He.veBase "ValueError.__new__" = true
theorem TopX.of (X : K.In h) (G : h.Ns mainGlobals mg) (a : ∀ x, x ∈ noIni → PySem.W.excIn K (He.ga K x) He.veBase "ValueError.__new__" = true) : TopX K mg := by
  exact {
    x_VaultError := a _ (List.mem_of_getElem? (i := 0) (by kernel_rfl))
    x_BadInput := a _ (List.mem_of_getElem? (i := 1) (by kernel_rfl))
    x_Refused := a _ (List.mem_of_getElem? (i := 2) (by kernel_rfl)) }
structure TopF0 (K : PySem.W.Frag) (mg : Str → Option Value) : Prop where
  k_Words : Cls K (He.ga K "Words")
  g_Words : mg "Words" = some (.ref (He.ga K "Words"))
  m_Words : Mk K (He.ga K "Words") (He.ma K (He.ga K "Words") "__init__")
  m_Words_refuse : Meth K (He.ga K "Words") "refuse" (He.ma K (He.ga K "Words") "refuse")
  m_Words_peek : Meth K (He.ga K "Words") "peek" (He.ma K (He.ga K "Words") "peek")
  m_Words_behind : Meth K (He.ga K "Words") "behind" (He.ma K (He.ga K "Words") "behind")
  m_Words_behind_one : Meth K (He.ga K "Words") "behind_one" (He.ma K (He.ga K "Words") "behind_one")
  m_Words_take_one : Meth K (He.ga K "Words") "take_one" (He.ma K (He.ga K "Words") "take_one")
  m_Words_is_at_whole : Meth K (He.ga K "Words") "is_at_whole" (He.ma K (He.ga K "Words") "is_at_whole")
  m_Words_take_whole : Meth K (He.ga K "Words") "take_whole" (He.ma K (He.ga K "Words") "take_whole")
  m_Words_end : Meth K (He.ga K "Words") "end" (He.ma K (He.ga K "Words") "end")
  a_Words_at : NoAttr K (He.ga K "Words") "at"
theorem TopF0.of (X : K.In h) (G : h.Ns mainGlobals mg) (a : ∀ f, f ∈ fas → He.Fa.ok K f = true) : TopF0 K mg := by
  exact {
    k_Words := He.cls_ok (a _ (List.mem_of_getElem? (i := 0) (by kernel_rfl)))
    g_Words := He.glo_ok X G (a _ (List.mem_of_getElem? (i := 1) (by kernel_rfl)))
    m_Words := He.mkr_ok (a _ (List.mem_of_getElem? (i := 2) (by kernel_rfl)))
    m_Words_refuse := He.meth_ok (a _ (List.mem_of_getElem? (i := 3) (by kernel_rfl)))
    m_Words_peek := He.meth_ok (a _ (List.mem_of_getElem? (i := 4) (by kernel_rfl)))
    m_Words_behind := He.meth_ok (a _ (List.mem_of_getElem? (i := 5) (by kernel_rfl)))
    m_Words_behind_one := He.meth_ok (a _ (List.mem_of_getElem? (i := 6) (by kernel_rfl)))
    m_Words_take_one := He.meth_ok (a _ (List.mem_of_getElem? (i := 7) (by kernel_rfl)))
    m_Words_is_at_whole := He.meth_ok (a _ (List.mem_of_getElem? (i := 8) (by kernel_rfl)))
    m_Words_take_whole := He.meth_ok (a _ (List.mem_of_getElem? (i := 9) (by kernel_rfl)))
    m_Words_end := He.meth_ok (a _ (List.mem_of_getElem? (i := 10) (by kernel_rfl)))
    a_Words_at := He.noat_ok (a _ (List.mem_of_getElem? (i := 11) (by kernel_rfl))) }
structure TopF1 (K : PySem.W.Frag) (mg : Str → Option Value) : Prop where
  a_Words_line : NoAttr K (He.ga K "Words") "line"
  a_Words_words : NoAttr K (He.ga K "Words") "words"
  k_Shape : Cls K (He.ga K "Shape")
  g_Shape : mg "Shape" = some (.ref (He.ga K "Shape"))
  m_Shape : Mk K (He.ga K "Shape") (He.ma K (He.ga K "Shape") "__init__")
  m_Shape_index_of : Meth K (He.ga K "Shape") "index_of" (He.ma K (He.ga K "Shape") "index_of")
  m_Shape___contains__ : Meth K (He.ga K "Shape") "__contains__" (He.ma K (He.ga K "Shape") "__contains__")
  m_Shape___eq__ : Meth K (He.ga K "Shape") "__eq__" (He.ma K (He.ga K "Shape") "__eq__")
  a_Shape_days : NoAttr K (He.ga K "Shape") "days"
  a_Shape_indexes : NoAttr K (He.ga K "Shape") "indexes"
  a_Shape_key_names : NoAttr K (He.ga K "Shape") "key_names"
  a_Shape_places : NoAttr K (He.ga K "Shape") "places"
theorem TopF1.of (X : K.In h) (G : h.Ns mainGlobals mg) (a : ∀ f, f ∈ fas → He.Fa.ok K f = true) : TopF1 K mg := by
  exact {
    a_Words_line := He.noat_ok (a _ (List.mem_of_getElem? (i := 12) (by kernel_rfl)))
    a_Words_words := He.noat_ok (a _ (List.mem_of_getElem? (i := 13) (by kernel_rfl)))
    k_Shape := He.cls_ok (a _ (List.mem_of_getElem? (i := 14) (by kernel_rfl)))
    g_Shape := He.glo_ok X G (a _ (List.mem_of_getElem? (i := 15) (by kernel_rfl)))
    m_Shape := He.mkr_ok (a _ (List.mem_of_getElem? (i := 16) (by kernel_rfl)))
    m_Shape_index_of := He.meth_ok (a _ (List.mem_of_getElem? (i := 17) (by kernel_rfl)))
    m_Shape___contains__ := He.meth_ok (a _ (List.mem_of_getElem? (i := 18) (by kernel_rfl)))
    m_Shape___eq__ := He.meth_ok (a _ (List.mem_of_getElem? (i := 19) (by kernel_rfl)))
    a_Shape_days := He.noat_ok (a _ (List.mem_of_getElem? (i := 20) (by kernel_rfl)))
    a_Shape_indexes := He.noat_ok (a _ (List.mem_of_getElem? (i := 21) (by kernel_rfl)))
    a_Shape_key_names := He.noat_ok (a _ (List.mem_of_getElem? (i := 22) (by kernel_rfl)))
    a_Shape_places := He.noat_ok (a _ (List.mem_of_getElem? (i := 23) (by kernel_rfl))) }
structure TopF2 (K : PySem.W.Frag) (mg : Str → Option Value) : Prop where
  k_Part : Cls K (He.ga K "Part")
  g_Part : mg "Part" = some (.ref (He.ga K "Part"))
  m_Part : Mk K (He.ga K "Part") (He.ma K (He.ga K "Part") "__init__")
  a_Part_places : NoAttr K (He.ga K "Part") "places"
  a_Part_shape : NoAttr K (He.ga K "Part") "shape"
  k_Question : Cls K (He.ga K "Question")
  g_Question : mg "Question" = some (.ref (He.ga K "Question"))
  m_Question : Mk K (He.ga K "Question") (He.ma K (He.ga K "Question") "__init__")
  m_Question___getitem__ : Meth K (He.ga K "Question") "__getitem__" (He.ma K (He.ga K "Question") "__getitem__")
  m_Question___eq__ : Meth K (He.ga K "Question") "__eq__" (He.ma K (He.ga K "Question") "__eq__")
  m_Question___str__ : Meth K (He.ga K "Question") "__str__" (He.ma K (He.ga K "Question") "__str__")
  a_Question_part : NoAttr K (He.ga K "Question") "part"
theorem TopF2.of (X : K.In h) (G : h.Ns mainGlobals mg) (a : ∀ f, f ∈ fas → He.Fa.ok K f = true) : TopF2 K mg := by
  exact {
    k_Part := He.cls_ok (a _ (List.mem_of_getElem? (i := 24) (by kernel_rfl)))
    g_Part := He.glo_ok X G (a _ (List.mem_of_getElem? (i := 25) (by kernel_rfl)))
    m_Part := He.mkr_ok (a _ (List.mem_of_getElem? (i := 26) (by kernel_rfl)))
    a_Part_places := He.noat_ok (a _ (List.mem_of_getElem? (i := 27) (by kernel_rfl)))
    a_Part_shape := He.noat_ok (a _ (List.mem_of_getElem? (i := 28) (by kernel_rfl)))
    k_Question := He.cls_ok (a _ (List.mem_of_getElem? (i := 29) (by kernel_rfl)))
    g_Question := He.glo_ok X G (a _ (List.mem_of_getElem? (i := 30) (by kernel_rfl)))
    m_Question := He.mkr_ok (a _ (List.mem_of_getElem? (i := 31) (by kernel_rfl)))
    m_Question___getitem__ := He.meth_ok (a _ (List.mem_of_getElem? (i := 32) (by kernel_rfl)))
    m_Question___eq__ := He.meth_ok (a _ (List.mem_of_getElem? (i := 33) (by kernel_rfl)))
    m_Question___str__ := He.meth_ok (a _ (List.mem_of_getElem? (i := 34) (by kernel_rfl)))
    a_Question_part := He.noat_ok (a _ (List.mem_of_getElem? (i := 35) (by kernel_rfl))) }
structure TopF3 (K : PySem.W.Frag) (mg : Str → Option Value) : Prop where
  a_Question_shape : NoAttr K (He.ga K "Question") "shape"
  a_Question_weights : NoAttr K (He.ga K "Question") "weights"
  g_RESERVED : mg "RESERVED" = some (.ref (He.ga K "RESERVED"))
  i_MOST_LETTERS : ∃ u, mg "MOST_LETTERS" = some u ∧ RelV (.int 8) u
  i_PIECE : ∃ u, mg "PIECE" = some u ∧ RelV (.int 60) u
  i_MOST_KEYS : ∃ u, mg "MOST_KEYS" = some u ∧ RelV (.int 6) u
  i_MOST_DAYS : ∃ u, mg "MOST_DAYS" = some u ∧ RelV (.int 8) u
  i_MOST_PLACES : ∃ u, mg "MOST_PLACES" = some u ∧ RelV (.int 36) u
theorem TopF3.of (X : K.In h) (G : h.Ns mainGlobals mg) (a : ∀ f, f ∈ fas → He.Fa.ok K f = true) : TopF3 K mg := by
  exact {
    a_Question_shape := He.noat_ok (a _ (List.mem_of_getElem? (i := 36) (by kernel_rfl)))
    a_Question_weights := He.noat_ok (a _ (List.mem_of_getElem? (i := 37) (by kernel_rfl)))
    g_RESERVED := He.glo_ok X G (a _ (List.mem_of_getElem? (i := 38) (by kernel_rfl)))
    i_MOST_LETTERS := by
      obtain ⟨t, e⟩ := He.int_ok X G (x := "MOST_LETTERS") (i := 8) (a _ (List.mem_of_getElem? (i := 39) (by kernel_rfl)))
      exact ⟨_, e, t, rfl⟩
    i_PIECE := by
      obtain ⟨t, e⟩ := He.int_ok X G (x := "PIECE") (i := 60) (a _ (List.mem_of_getElem? (i := 40) (by kernel_rfl)))
      exact ⟨_, e, t, rfl⟩
    i_MOST_KEYS := by
      obtain ⟨t, e⟩ := He.int_ok X G (x := "MOST_KEYS") (i := 6) (a _ (List.mem_of_getElem? (i := 41) (by kernel_rfl)))
      exact ⟨_, e, t, rfl⟩
    i_MOST_DAYS := by
      obtain ⟨t, e⟩ := He.int_ok X G (x := "MOST_DAYS") (i := 8) (a _ (List.mem_of_getElem? (i := 42) (by kernel_rfl)))
      exact ⟨_, e, t, rfl⟩
    i_MOST_PLACES := by
      obtain ⟨t, e⟩ := He.int_ok X G (x := "MOST_PLACES") (i := 36) (a _ (List.mem_of_getElem? (i := 43) (by kernel_rfl)))
      exact ⟨_, e, t, rfl⟩ }
structure TopT (K : PySem.W.Frag) (mg : Str → Option Value) : Prop where
  t_RESERVED : ∀ H : Hp, SqT K H (He.ga K "RESERVED") [V.str "days", V.str "keys", V.str "every", V.str "leads", V.str "sizes", V.str "blocks", V.str "pages", V.str "cells", V.str "buckets", V.str "stripes", V.str "block", V.str "page", V.str "cell", V.str "bucket", V.str "parity", V.str "journal", V.str "read", V.str "given", V.str "none", V.str "order"]
  y_RESERVED : ∀ H : Hp, tyV K "tuple" (.ref (He.ga K "RESERVED")) H
theorem TopT.of (X : K.In h) (G : h.Ns mainGlobals mg) (a : ∀ p, p ∈ tups → tupB K p = true) : TopT K mg := by
  exact {
    t_RESERVED := fun H => tupB_ok (p := ("RESERVED", [.str "days", .str "keys", .str "every", .str "leads", .str "sizes", .str "blocks", .str "pages", .str "cells", .str "buckets", .str "stripes", .str "block", .str "page", .str "cell", .str "bucket", .str "parity", .str "journal", .str "read", .str "given", .str "none", .str "order"])) (a _ (List.mem_of_getElem? (i := 0) (by kernel_rfl)))
    y_RESERVED := fun H => tupB_ty (p := ("RESERVED", [.str "days", .str "keys", .str "every", .str "leads", .str "sizes", .str "blocks", .str "pages", .str "cells", .str "buckets", .str "stripes", .str "block", .str "page", .str "cell", .str "bucket", .str "parity", .str "journal", .str "read", .str "given", .str "none", .str "order"])) (a _ (List.mem_of_getElem? (i := 0) (by kernel_rfl))) }
structure TopO (K : PySem.W.Frag) (mg : Str → Option Value) : Prop where
  o_Words : Owns K own "Words"
  o_Shape : Owns K own "Shape"
  o_Part : Owns K own "Part"
  o_Question : Owns K own "Question"
theorem TopO.of (X : K.In h) (G : h.Ns mainGlobals mg) (a : ∀ x, x ∈ own → ownsB K own x = true) : TopO K mg := by
  exact {
    o_Words := ownsB_ok (a "Words" (List.mem_of_getElem? (i := 0) (by kernel_rfl)))
    o_Shape := ownsB_ok (a "Shape" (List.mem_of_getElem? (i := 1) (by kernel_rfl)))
    o_Part := ownsB_ok (a "Part" (List.mem_of_getElem? (i := 2) (by kernel_rfl)))
    o_Question := ownsB_ok (a "Question" (List.mem_of_getElem? (i := 3) (by kernel_rfl))) }
structure TopM (K : PySem.W.Frag) (mg : Str → Option Value) : Prop where
  cm_Question_read : ClX.CMet K (He.ga K "Question") (.type "type") "read" (He.ma K (He.ga K "Question") "read") (cmA K (He.ga K "Question") "read")
theorem TopM.of (X : K.In h) (G : h.Ns mainGlobals mg) (a : ∀ p, p ∈ cmts → cmB K (He.ga K p.1) p.2 = true) : TopM K mg := by
  exact {
    cm_Question_read := cmB_ok (a ("Question", "read") (List.mem_of_getElem? (i := 0) (by kernel_rfl))) }
structure Top (w : World) (K : PySem.W.Frag) (mg : Str → Option Value) : Prop extends TopN K mg, TopE K mg, TopX K mg, TopF0 K mg, TopF1 K mg, TopF2 K mg, TopF3 K mg, TopT K mg, TopO K mg, TopM K mg
theorem top_of (X : K.In h) (G : h.Ns mainGlobals mg) (c : SaysRA chkL fn tabs tf w h K) : Top w K mg := by
  have all := (ba2 c.look).1
  obtain ⟨cls, all⟩ := ba2 all
  obtain ⟨_, all⟩ := ba2 all
  obtain ⟨noi, all⟩ := ba2 all
  obtain ⟨fre, all⟩ := ba2 all
  obtain ⟨_, all⟩ := ba2 all
  obtain ⟨fa, all⟩ := ba2 all
  obtain ⟨tu, all⟩ := ba2 all
  obtain ⟨di, all⟩ := ba2 all
  obtain ⟨ow, st⟩ := ba2 all
  have fc : ∀ f, f ∈ fas → He.Fa.ok K f = true := fun f hf => List.all_eq_true.mp fa f hf
  exact {
    toTopN := TopN.of X G (fre)
    toTopE := TopE.of X G (cls)
    toTopX := TopX.of X G (fun x hx => List.all_eq_true.mp noi x hx)
    toTopF0 := TopF0.of X G (fc)
    toTopF1 := TopF1.of X G (fc)
    toTopF2 := TopF2.of X G (fc)
    toTopF3 := TopF3.of X G (fc)
    toTopT := TopT.of X G (fun p hp => List.all_eq_true.mp tu p hp)
    toTopO := TopO.of X G (fun x hx => List.all_eq_true.mp ow x hx)
    toTopM := TopM.of X G (fun p hp => List.all_eq_true.mp (ba2 st).2 p hp) }
theorem glo_fn (X : K.In h) (G : h.Ns mainGlobals mg) (c : SaysRA chkL fn tabs tf w h K) {x : Str} (m : x ∈ fns) : mg x = some (.ref (He.ga K x)) :=
  gloB_ok X G (List.all_eq_true.mp (ba2 (ba2 (ba2 (ba2 (ba2 (ba2 c.look).1).2).2).2).2).1 x m)
end
abbrev Fn (K : PySem.W.Frag) (x : Str) (st : Stmt) (fd : FuncData) : Prop := FunD K x x (defArgs st) (defBody st) (defScope st) [] [] (He.ga K x) fd
structure TopK (K : PySem.W.Frag) : Prop where
  exm : ∀ i ∈ ([6, 10] : List Nat), PySem.W.exmOne K (.ref (ca K i)) (.ref (ca K 0)) = some true
  ve : ∀ i ∈ ([6, 10] : List Nat), PySem.W.kitOne K (.ref (ca K i)) (.type "ValueError") = some true
  kin : ∀ i ∈ ([6, 10] : List Nat), ∀ j ∈ ([6, 10] : List Nat), PySem.W.kitOne K (.ref (ca K i)) (.ref (ca K j)) = some (i == j)
theorem topK_of {w : World} {h : Heap} {K : PySem.W.Frag} (c : SaysRA chkL fn tabs tf w h K) : TopK K := by
  have q := (ba2 (ba2 c.look).2).1
  have one : ∀ i ∈ ([6, 10] : List Nat), _ := fun i hi => ba2 (List.all_eq_true.mp q i hi)
  exact {
    exm := fun i hi => of_decide_eq_true (one i hi).1
    ve := fun i hi => of_decide_eq_true (ba2 (one i hi).2).1
    kin := fun i hi j hj => of_decide_eq_true (List.all_eq_true.mp (ba2 (one i hi).2).2 j hj) }
theorem no_field {w : World} {h : Heap} {K : PySem.W.Frag} (c : SaysRA chkL fn tabs tf w h K) (i : Nat) {p : Str × List Str} (hp : inis[i]? = some p) (x : Str) (m : x ∈ p.2) : PySem.W.findIn K (.ref (He.ga K p.1)) x = some none :=
  (iniB_ok (List.all_eq_true.mp (ba2 (ba2 (ba2 c.look).1).2).1 _ (List.mem_of_getElem? hp))).2.2 x m
end L2.K19
set_option Elab.async false
set_option linter.all false
set_option maxRecDepth 100000
set_option maxHeartbeats 4000000
/-! Values of any kind: whether they are integers, texts. -/
namespace L2.RV
open PySem PySem.Spec PyProof.Rows
/-- a module's constant -/
theorem pe_globE {X : Cx} {x : Str} {v : V} {pos : Pos} (hg : Gl X x) (h : ∃ u, X.mg x = some u ∧ RelV v u) (hd : (x == ("__debug__" : Str)) = false := by decide) : PE X (.Name x pos) (tC v) := by
  obtain ⟨u, e, r⟩ := h
  exact pe_glob hg e r hd
/-- the value is of the built-in type n -/
def Knd (K : PySem.W.Frag) (H : Hp) (v : V) (n : String) : Prop := TyX K H v (.type n)
/-- the integer that v is; a truth value is none -/
def whole : V → Option Int
  | .int i => some i
  | _ => none
/-- what isinstance says of a value of some kind -/
structure Kinds (K : PySem.W.Frag) (H : Hp) (v : V) : Prop where
  ex : ∃ n, TyX K H v (.type n) ∧ kitB n "int" = some (match v with | .int _ => true | .bl _ => true | _ => false) ∧ kitB n "bool" = some (match v with | .bl _ => true | _ => false) ∧ kitB n "str" = some (match v with | .str _ => true | _ => false)
theorem kinds_non {K : PySem.W.Frag} {H : Hp} : Kinds K H .non := ⟨"NoneType", .base .non, (by decide +kernel : kitB "NoneType" "int" = some false), (by decide +kernel : kitB "NoneType" "bool" = some false), (by decide +kernel : kitB "NoneType" "str" = some false)⟩
theorem kinds_bl {K : PySem.W.Frag} {H : Hp} (b : Bool) : Kinds K H (.bl b) := ⟨"bool", .base (.bl b), (by decide +kernel : kitB "bool" "int" = some true), (by decide +kernel : kitB "bool" "bool" = some true), (by decide +kernel : kitB "bool" "str" = some false)⟩
theorem kinds_int {K : PySem.W.Frag} {H : Hp} (i : Int) : Kinds K H (.int i) := ⟨"int", .base (.int i), (by decide +kernel : kitB "int" "int" = some true), (by decide +kernel : kitB "int" "bool" = some false), (by decide +kernel : kitB "int" "str" = some false)⟩
theorem kinds_str {K : PySem.W.Frag} {H : Hp} (x : Str) : Kinds K H (.str x) := ⟨"str", .base (.str x), (by decide +kernel : kitB "str" "int" = some false), (by decide +kernel : kitB "str" "bool" = some false), (by decide +kernel : kitB "str" "str" = some true)⟩
theorem kinds_lst {K : PySem.W.Frag} {H : Hp} {a : Addr} {xs : List V} (h : H a = some (.lst xs)) : Kinds K H (.ref a) := ⟨"list", .base (.lst h), (by decide +kernel : kitB "list" "int" = some false), (by decide +kernel : kitB "list" "bool" = some false), (by decide +kernel : kitB "list" "str" = some false)⟩
theorem kinds_tup {K : PySem.W.Frag} {H : Hp} {a : Addr} {xs : List V} (h : H a = some (.tup xs)) : Kinds K H (.ref a) := ⟨"tuple", .base (.tup h), (by decide +kernel : kitB "tuple" "int" = some false), (by decide +kernel : kitB "tuple" "bool" = some false), (by decide +kernel : kitB "tuple" "str" = some false)⟩
theorem kinds_dct {K : PySem.W.Frag} {H : Hp} {a : Addr} {kvs : List (Key × V)} (h : H a = some (.dK kvs)) : Kinds K H (.ref a) := ⟨"dict", .base (.dK h), (by decide +kernel : kitB "dict" "int" = some false), (by decide +kernel : kitB "dict" "bool" = some false), (by decide +kernel : kitB "dict" "str" = some false)⟩
end L2.RV
set_option Elab.async false
set_option linter.all false
set_option maxRecDepth 100000
set_option maxHeartbeats 4000000
/-! Integers, names. -/
namespace L2.K19
open PySem PySem.Spec PyProof.Rows L2.RV
def isInt : V → Bool
  | .int _ => true
  | _ => false
/-- is_whole(value) -/
def spWhole (K : PySem.W.Frag) : Sp := fun vs H Q _ => ∃ v : V, vs = [v] ∧ Kinds K H v ∧ Q (.bl (isInt v)) H
def from_ (lo hi : Int) : V → Bool
  | .int i => decide (lo ≤ i) && decide (i ≤ hi)
  | _ => false
/-- is_whole_from(value, low, high) -/
def spFrom (K : PySem.W.Frag) : Sp := fun vs H Q _ => ∃ (v : V) (lo hi : Int), vs = [v, .int lo, .int hi] ∧ Kinds K H v ∧ Q (.bl (from_ lo hi v)) H
/-- the names that are kept -/
def resV : List V := (["days", "keys", "every", "leads", "sizes", "blocks", "pages", "cells", "buckets", "stripes", "block", "page", "cell", "bucket", "parity", "journal", "read", "given", "none", "order"] : List Str).map fun x => .str x
/-- is_name(value), of a text -/
def isName (x : Str) : Bool := decide (1 ≤ (x.length : Int)) && (decide ((x.length : Int) ≤ 8) && (Txt.isascii x && (Txt.isalpha x && (Txt.islower x && !inV (.str x) resV))))
def spName : Sp := fun vs H Q _ => ∃ x : Str, vs = [.str x] ∧ x.length ≤ sizeLine ∧ Q (.bl (isName x)) H
section
variable {P : Program} {w : World} {K : PySem.W.Frag} {mg : Str → Option Value} {base : Heap} {fd : FuncData}
theorem ok_is_whole (T : Top w K mg) (F : Fn K "is_whole" s_is_whole fd) : FnOk P w K mg base CX0 1 (He.ga K "is_whole") fd ["value"] (spWhole K) := by
  refine F.ok sc_is_whole (fun vs H Q E h => ?_) (fun cdv A outer s H vs Q E hr h => ?_)
  · obtain ⟨v, rfl, _⟩ := h
    rfl
  · obtain ⟨v, rfl, kd, k⟩ := h
    obtain ⟨n, ty, ki, kb, ks⟩ := kd.ex
    refine ⟨_, PSs.nox (pss_one (ps_ret (pe_and (pe_callB call_isi rfl T.n_isinstance (by decide +kernel) (pa_cons (pv 0) (pa_cons (pe_bltn (v := .ty "int") (u := .type "int") rfl T.n_int (by decide +kernel) rfl) pa_nil))) (pe_one (pe_not (pe_callB call_isi rfl T.n_isinstance (by decide +kernel) (pa_cons (pv 0) (pa_cons (pe_bltn (v := .ty "bool") (u := .type "bool") rfl T.n_bool (by decide +kernel) rfl) pa_nil)))))))), ?_⟩
    refine ⟨_, rfl, _, _, _, _, _, rfl, .ty "int", ty, kit_ty ki, _, rfl, ?_⟩
    cases v with
    | int i => exact ⟨_, rfl, _, _, _, _, _, rfl, .ty "bool", ty, kit_ty kb, _, rfl, k⟩
    | bl b => exact ⟨_, rfl, _, _, _, _, _, rfl, .ty "bool", ty, kit_ty kb, _, rfl, k⟩
    | _ => exact k
theorem ok_is_whole_from (T : Top w K mg) (D_is_whole : Def P w K mg base "is_whole" 1 ["value"] (spWhole K)) (F : Fn K "is_whole_from" s_is_whole_from fd) : FnOk P w K mg base CX0 2 (He.ga K "is_whole_from") fd ["value", "low", "high"] (spFrom K) := by
  refine F.ok sc_is_whole_from (fun vs H Q E h => ?_) (fun cdv A outer s H vs Q E hr h => ?_)
  · obtain ⟨v, lo, hi, rfl, _⟩ := h
    rfl
  · obtain ⟨v, lo, hi, rfl, kd, k⟩ := h
    refine ⟨_, PSs.nox (pss_one (ps_ret (pe_and (pe_callD D_is_whole (hr.mono (by decide)) rfl (pa_cons (pv 0) pa_nil)) (pe_one (pe_chain op_le op_le (pv 1) (pv 0) (pv 2) ))))), ?_⟩
    refine ⟨_, rfl, v, rfl, kd, _, rfl, ?_⟩
    cases v with
    | int i =>
      refine ⟨_, rfl, _, rfl, _, _, rfl, rfl, _, rfl, ?_⟩
      by_cases c : lo ≤ i
      · rw [decide_eq_true c]
        refine ⟨_, rfl, _, _, rfl, rfl, ?_⟩
        have e : from_ lo hi (.int i) = decide (i ≤ hi) := by
          show (decide (lo ≤ i) && decide (i ≤ hi)) = decide (i ≤ hi)
          rw [decide_eq_true c, Bool.true_and]
        rw [e] at k
        exact k
      · rw [decide_eq_false c]
        have e : from_ lo hi (.int i) = false := by
          show (decide (lo ≤ i) && decide (i ≤ hi)) = false
          rw [decide_eq_false c, Bool.false_and]
        rw [e] at k
        exact k
    | _ => exact k
theorem ok_is_name (T : Top w K mg) (F : Fn K "is_name" s_is_name fd) : FnOk P w K mg base CX0 1 (He.ga K "is_name") fd ["value"] spName := by
  refine F.ok sc_is_name (fun vs H Q E h => ?_) (fun cdv A outer s H vs Q E hr h => ?_)
  · obtain ⟨x, rfl, _⟩ := h
    rfl
  · obtain ⟨x, rfl, lx, k⟩ := h
    refine ⟨_, PSs.nox (pss_cons (ps_if (PW.pt (pw_or (pt_not (pt_val (pe_callB call_isi rfl T.n_isinstance (by decide +kernel) (pa_cons (pv 0) (pa_cons (pe_bltn (v := .ty "str") (u := .type "str") rfl T.n_str (by decide +kernel) rfl) pa_nil))))) (pw_or1 (pt_not (pt_chain op_le op_le pe_int (pe_callB call_len rfl T.n_len (by decide +kernel) (pa_cons (pv 0) pa_nil)) (pe_globE rfl T.i_MOST_LETTERS) ))))) (pss_one (ps_ret pe_bl)) pss_nil)
      (pss_cons (ps_set (i := 1) sc_is_name.nd rfl (by first | exact Or.inl rfl | exact Or.inr rfl) (pe_and (pe_bm0 PySem.F.plainAttrs_str PySem.F.slot_str_isascii PySem.F.type_str_isascii mt_isascii (pv 0)) (pe_and (pe_bm0 PySem.F.plainAttrs_str PySem.F.slot_str_isalpha PySem.F.type_str_isalpha mt_isalpha (pv 0)) (pe_one (pe_bm0 PySem.F.plainAttrs_str PySem.F.slot_str_islower PySem.F.type_str_islower mt_islower (pv 0))))))
      (pss_one (ps_ret (pe_and (pv 1) (pe_one (pe_cmpR op_notIn_seq (pv 0) (pe_glob (v := .ref (He.ga K "RESERVED")) rfl T.g_RESERVED rfl) rfl))))))), ?_⟩
    obtain ⟨n, ty, ki, kb, ks⟩ := (kinds_str (K := K) (H := H) x).ex
    refine ⟨_, rfl, _, _, _, _, _, rfl, .ty "str", ty, kit_ty ks, _, rfl, ?_⟩
    refine (if_neg (by decide : ¬ ((!true) = true))).mpr ?_
    refine ⟨_, rfl, _, _, rfl, ⟨lx, rfl⟩, ?_⟩
    refine ⟨_, _, rfl, rfl, _, rfl, ?_⟩
    have e : isName x = (decide (1 ≤ (x.length : Int)) && (decide ((x.length : Int) ≤ 8) && (Txt.isascii x && (Txt.isalpha x && (Txt.islower x && !inV (.str x) resV))))) := by rfl
    rw [e] at k
    clear e
    cases c1 : decide (1 ≤ (x.length : Int)) with
    | false =>
      rw [c1] at k
      exact ⟨_, rfl, k⟩
    | true =>
      refine ⟨_, _, rfl, rfl, _, rfl, ?_⟩
      rw [c1, Bool.true_and] at k
      cases c2 : decide ((x.length : Int) ≤ 8) with
      | false =>
        rw [c2] at k
        exact k
      | true =>
        rw [c2, Bool.true_and] at k
        refine (if_neg (by decide : ¬ ((!true) = true))).mpr ?_
        refine ⟨_, rfl, rfl, _, rfl, rfl, trivial, _, rfl, ?_⟩
        cases c3 : Txt.isascii x with
        | false =>
          rw [c3] at k
          exact ⟨_, rfl, _, rfl, k⟩
        | true =>
          rw [c3, Bool.true_and] at k
          refine ⟨_, rfl, rfl, _, rfl, rfl, trivial, _, rfl, ?_⟩
          cases c4 : Txt.isalpha x with
          | false =>
            rw [c4] at k
            exact ⟨_, rfl, _, rfl, k⟩
          | true =>
            rw [c4, Bool.true_and] at k
            refine ⟨_, rfl, rfl, _, rfl, rfl, trivial, ?_⟩
            refine ⟨_, rfl, _, rfl, ?_⟩
            cases c5 : Txt.islower x with
            | false =>
              rw [c5] at k
              exact k
            | true =>
              rw [c5, Bool.true_and] at k
              exact ⟨_, rfl, _, resV, rfl, .inr (T.t_RESERVED _), rfl, by decide, k⟩
end
end L2.K19
set_option Elab.async false
set_option linter.all false
set_option maxRecDepth 100000
set_option maxHeartbeats 4000000
/-! The pen's defs keep their promises. -/
namespace L2.K19
open PySem PySem.Spec PyProof.Rows L2.RV
section
variable {P : Program} {w : World} {K : PySem.W.Frag} {mg : Str → Option Value} {base : Heap} {fd : FuncData}
theorem ok_law_pen (T : Top w K mg) (F : Fn K "_law_pen" s_law_pen fd) : FnOk P w K mg base CX0 1 (He.ga K "_law_pen") fd ["_law_script"] (spPen K) := by
  refine F.ok sc_law_pen (fun vs H Q E h => ?_) (fun cdv A outer s H vs Q E hr h => ?_)
  · obtain ⟨a, ns, rfl, _⟩ := h
    rfl
  · obtain ⟨a, ns, rfl, hS, few, k⟩ := h
    refine ⟨_, PSs.nox (pss_one (ps_ret (pe_lstN (pa_cons (pe_callTy call_list_of rfl T.n_list (by decide +kernel) (pa_cons (pe_slice sl_list (pv 0) po_none (po_some pe_int)) pa_nil)) (pa_cons pe_int (pa_cons pe_int pa_nil)))))), ?_⟩
    obtain ⟨ms, em, lm⟩ := cut_ints ns none (some 63)
    refine ⟨_, rfl, 63, rfl, a, _, rfl, hS, fun q1 h1 => ?_⟩
    refine ⟨q1, _, rfl, .inl (SqL.of upd_same), fun q2 h2 => ?_⟩
    refine ⟨by show 3 ≤ sizeLine; decide, fun p hp hs => ?_⟩
    have n21 : q2 ≠ p := fun z => by
      rw [← z, upd_same] at hp
      cases hp
    have n2 : H q2 = none := by
      have z := h2
      have ne : q2 ≠ q1 := fun y => by
        rw [y, upd_same] at z
        cases z
      rw [upd_ne ne] at z
      exact z
    have np : H p = none := (Same.trans (same_new h1) (same_new h2)).free hp
    exact k _ p q2 ms ((Same.trans (same_new h1) (same_new h2)).trans (same_new hp)) np ⟨upd_same, by rw [upd_ne n21, upd_same, em], n21, by omega, Int.le_refl 0, Int.le_refl 0⟩
theorem ok_law_draw (T : Top w K mg) (F : Fn K "_law_draw" s_law_draw fd) : FnOk P w K mg base CX0 1 (He.ga K "_law_draw") fd ["_law_pen_here", "_law_many"] spDraw := by
  refine F.ok sc_law_draw (fun vs H Q E h => ?_) (fun cdv A outer s H vs Q E hr h => ?_)
  · obtain ⟨p, l, ns, a, r, m, rfl, _⟩ := h
    rfl
  · obtain ⟨p, l, ns, a, r, m, rfl, pa, ha, m0, m1, k⟩ := h
    have hu := hr.units
    have a0 := pa.from0
    have r0 := pa.rest0
    refine ⟨_, PSs.nox (pss_cons (ps_if (pt_cmpR op_gt (pe_ix ix_seq (pv 0) pe_int (fun _ _ => rfl)) pe_int (nomark _)) (pss_cons (ps_set (i := 5) sc_law_draw.nd rfl (by first | exact Or.inl rfl | exact Or.inr rfl) (pe_op op_mod (pe_callTy call_int1 rfl T.n_int (by decide +kernel) (pa_cons (pe_ix ix_seq (pv 0) pe_int (fun _ _ => rfl)) pa_nil)) (pv 1)))
      (pss_cons (ps_asg (pe_op op_fdiv (pe_callTy call_int1 rfl T.n_int (by decide +kernel) (pa_cons (pe_ix ix_seq (pv 0) pe_int (fun _ _ => rfl)) pa_nil)) (pv 1)) (pg_sub (pv 0) pe_int set_list))
      (pss_one (ps_ret (pv 5))))) pss_nil)
      (pss_cons (ps_set (i := 2) sc_law_draw.nd rfl (by first | exact Or.inl rfl | exact Or.inr rfl) (pe_ix ix_seq (pv 0) pe_int (fun _ _ => rfl)))
      (pss_cons (ps_asg (pe_op op_plus (pv 2) pe_int) (pg_sub (pv 0) pe_int set_list))
      (pss_cons (ps_set (i := 3) sc_law_draw.nd rfl (by first | exact Or.inl rfl | exact Or.inr rfl) (pe_op op_plus (pe_op op_times pe_int (pv 2)) pe_int))
      (pss_cons (ps_if (pt_cmpR (op_diff hu) (pe_ix ix_seq (pv 0) pe_int (fun _ _ => rfl)) (pe_lstN pa_nil) (nomark _)) (pss_one (ps_set (i := 3) sc_law_draw.nd rfl (by first | exact Or.inl rfl | exact Or.inr rfl) (pe_ix ix_seq (pe_ix ix_seq (pv 0) pe_int (fun _ _ => rfl)) (pe_op op_mod (pe_callTy call_int1 rfl T.n_int (by decide +kernel) (pa_cons (pv 2) pa_nil)) (pe_callB call_len rfl T.n_len (by decide +kernel) (pa_cons (pe_ix ix_seq (pv 0) pe_int (fun _ _ => rfl)) pa_nil))) (fun _ _ => rfl)))) pss_nil)
      (pss_cons (ps_if (PW.pt (pw_and (pt_cmpR op_lt (pv 2) (pe_callB call_len rfl T.n_len (by decide +kernel) (pa_cons (pe_ix ix_seq (pv 0) pe_int (fun _ _ => rfl)) pa_nil)) (nomark _)) (pw_and1 (pt_cmpR op_ge (pe_callB call_abs rfl T.n_abs (by decide +kernel) (pa_cons (pv 3) pa_nil)) (pe_op op_pow pe_int pe_int) (nomark _))))) (pss_cons (ps_set (i := 6) sc_law_draw.nd rfl (by first | exact Or.inl rfl | exact Or.inr rfl) (pe_op op_plus (pe_op op_times pe_int (pe_op op_sub (pe_callB call_abs rfl T.n_abs (by decide +kernel) (pa_cons (pv 3) pa_nil)) (pe_op op_pow pe_int pe_int))) (pe_callTy call_int1 rfl T.n_int (by decide +kernel) (pa_cons (pe_cmpR op_lt (pv 3) pe_int (nomark _)) pa_nil))))
      (pss_cons (ps_asg (pe_op op_fdiv (pe_callTy call_int1 rfl T.n_int (by decide +kernel) (pa_cons (pv 6) pa_nil)) (pv 1)) (pg_sub (pv 0) pe_int set_list))
      (pss_one (ps_ret (pe_op op_mod (pe_callTy call_int1 rfl T.n_int (by decide +kernel) (pa_cons (pv 6) pa_nil)) (pv 1)))))) pss_nil)
      (pss_cons (ps_set (i := 4) sc_law_draw.nd rfl (by first | exact Or.inl rfl | exact Or.inr rfl) (pe_op op_mod (pe_callTy call_int1 rfl T.n_int (by decide +kernel) (pa_cons (pe_op op_pow (pe_op op_plus (pe_op op_plus (pe_op op_mod (pe_callTy call_int1 rfl T.n_int (by decide +kernel) (pa_cons (pv 3) pa_nil)) pe_int) (pe_op op_times pe_int (pv 2))) pe_int) pe_int) pa_nil)) pe_int))
      (pss_cons (ps_set (i := 4) sc_law_draw.nd rfl (by first | exact Or.inl rfl | exact Or.inr rfl) (pe_op op_mod (pe_callTy call_int1 rfl T.n_int (by decide +kernel) (pa_cons (pe_op op_pow (pe_op op_plus (pe_op op_plus (pe_op op_times (pv 4) (pe_op op_plus (pe_op op_times pe_int (pv 2)) pe_int)) (pe_op op_times (pe_op op_times pe_int (pv 2)) (pv 2))) pe_int) pe_int) pa_nil)) pe_int))
      (pss_one (ps_ret (pe_op op_mod (pe_callTy call_int1 rfl T.n_int (by decide +kernel) (pa_cons (pe_op op_fdiv (pv 4) pe_int) pa_nil)) (pv 1)))))))))))), ?_⟩
    refine ⟨_, rfl, rd_ix pa.pen rfl ⟨_, _, rfl, rfl, _, rfl, ?_⟩⟩
    refine ite2 (fun c => ?_) (fun c => ?_)
    · -- a digit of what is left
      refine ⟨_, rfl, rd_ix pa.pen rfl (.inl ⟨_, rfl, _, rfl, _, _, rfl, rfl, m0, ?_⟩)⟩
      refine ⟨_, rfl, rd_ix pa.pen rfl (.inl ⟨_, rfl, _, rfl, _, _, rfl, rfl, ⟨m0, m1⟩, ?_⟩)⟩
      refine ⟨_, rfl, rd_set [.ref l, .int a, .int (r / m)] pa.pen rfl rfl ?_⟩
      refine ⟨_, rfl, ?_⟩
      exact k _ a (r / m) (r % m) Keep.upd ⟨upd_same, by rw [upd_ne pa.ne]; exact pa.nums, pa.ne, pa.few, pa.from0, Int.ediv_nonneg r0 (by omega)⟩ (by omega) (Int.emod_nonneg _ (by omega)) (Int.emod_lt_of_pos _ m0)
    · refine ⟨_, rfl, rd_ix pa.pen rfl ?_⟩
      refine ⟨_, rfl, .inl ⟨_, _, rfl, rfl, ?_⟩⟩
      refine ⟨_, rfl, rd_set [.ref l, .int (a + 1), .int r] pa.pen rfl rfl ?_⟩
      have p1 : PenAt (upd H p (.lst [.ref l, .int (a + 1), .int r])) p l ns (a + 1) r := ⟨upd_same, by rw [upd_ne pa.ne]; exact pa.nums, pa.ne, pa.few, by omega, r0⟩
      have k1 : Keep p H (upd H p (.lst [.ref l, .int (a + 1), .int r])) := Keep.upd
      generalize upd H p (.lst [.ref l, .int (a + 1), .int r]) = H1 at p1 k1 ⊢
      refine ⟨_, rfl, .inl ⟨_, _, rfl, rfl, cmulL (by decide) (by decide), .inl ⟨_, _, rfl, rfl, ?_⟩⟩⟩
      refine ⟨_, rfl, rd_ix p1.pen rfl ⟨Nat.zero_le _, fun q hq _ => .inr ⟨_, _, .lst (SqL.of (same_new hq _ _ p1.nums)) (dpA_int ns), .lst (SqL.of upd_same) .nil, shaped_int ns, by decide, _, rfl, ?_⟩⟩⟩
      have p2 := p1.same (same_new (o := .lst []) hq)
      have k2 : Keep p H (upd H1 q (.lst [])) := k1.trans (.of (same_new hq))
      generalize upd H1 q (.lst []) = H2 at p2 k2 ⊢
      refine ite2 (fun c => ?_) (fun c => ?_)
      · have pos : 0 < ns.length := by
          rw [no_ints] at c
          cases ns with
          | nil => simp at c
          | cons n ns => exact Nat.succ_pos _
        obtain ⟨cell, hcell⟩ := atI_mod (a := a) pos a0
        have pos' : (0 : Int) < (((ns.map V.int).length : Nat) : Int) := by rw [List.length_map]; omega
        refine ⟨_, rfl, rd_ix p2.pen rfl ⟨_, rfl, .inl ⟨_, rfl, _, rfl, rd_ix p2.pen rfl ⟨_, _, rfl, .inl ⟨_, SqL.of p2.nums, rfl⟩, _, _, rfl, rfl, pos', rd_ix p2.nums hcell ?_⟩⟩⟩⟩
        refine ⟨_, rfl, _, rfl, rd_ix p2.pen rfl ⟨_, _, rfl, .inl ⟨_, SqL.of p2.nums, rfl⟩, _, _, rfl, rfl, _, rfl, ?_⟩⟩
        refine ite2 (fun c1 => ?_) (fun c1 => ?_)
        · refine ⟨_, rfl, _, rfl, _, _, rfl, rfl, c18, _, _, rfl, rfl, _, rfl, ?_⟩
          refine ite2 (fun c2 => ?_) (fun c2 => ?_)
          · refine ⟨_, rfl, _, rfl, _, _, rfl, rfl, c18, _, _, rfl, rfl, .inl ⟨_, _, rfl, rfl, cmulL (by decide) (by decide), _, rfl, _, _, rfl, rfl, .inr ⟨_, rfl, .inl ⟨_, _, rfl, rfl, ?_⟩⟩⟩⟩
            refine ⟨_, rfl, .inl ⟨_, rfl, _, rfl, _, _, rfl, rfl, ⟨m0, m1⟩, ?_⟩⟩
            refine ⟨_, rfl, rd_set [.ref l, .int (a + 1), .int _] p2.pen rfl rfl ?_⟩
            refine ⟨_, rfl, .inl ⟨_, rfl, _, rfl, _, _, rfl, rfl, m0, ?_⟩⟩
            refine k _ (a + 1) _ _ (k2.trans Keep.upd) ⟨upd_same, by rw [upd_ne p2.ne]; exact p2.nums, p2.ne, p2.few, by omega, Int.ediv_nonneg ?_ (by omega)⟩ (by omega) (Int.emod_nonneg _ (by omega)) (Int.emod_lt_of_pos _ m0)
            have c2' := of_decide_eq_true c2
            rw [e18] at c2' ⊢
            split <;> omega
          · refine ⟨_, rfl, .inl ⟨_, rfl, _, _, rfl, rfl, (by show (0 : Int) < _; decide), _, rfl, .inl ⟨_, _, rfl, rfl, cmulL (by decide) (by decide), .inl ⟨_, _, rfl, rfl, .inl ⟨_, _, rfl, rfl, _, _, rfl, rfl, cpow5 (by omega) (by omega), .inl ⟨_, rfl, _, _, rfl, rfl, (by show (0 : Int) < _; decide), ?_⟩⟩⟩⟩⟩⟩
            refine ⟨_, rfl, _, rfl, .inl ⟨_, _, rfl, rfl, cmulL (by decide) (by decide), .inl ⟨_, _, rfl, rfl, .inl ⟨_, _, rfl, rfl, cmulL (Int.emod_nonneg _ (by decide)) (by omega), _, rfl, .inl ⟨_, _, rfl, rfl, cmulL (by decide) (by decide), _, rfl, .inl ⟨_, _, rfl, rfl, cmulL (by omega) (by omega), .inl ⟨_, _, rfl, rfl, .inl ⟨_, _, rfl, rfl, _, _, rfl, rfl, cpow3 (by omega) (by omega) (by omega) (by omega) (by omega) (by omega) a0 ha (by decide) (by decide), .inl ⟨_, rfl, _, _, rfl, rfl, (by show (0 : Int) < _; decide), ?_⟩⟩⟩⟩⟩⟩⟩⟩⟩
            refine ⟨_, rfl, _, _, rfl, rfl, ⟨by decide, by decide⟩, .inl ⟨_, rfl, _, rfl, _, _, rfl, rfl, m0, ?_⟩⟩
            exact k _ (a + 1) r _ k2 p2 (Int.le_refl _) (Int.emod_nonneg _ (by omega)) (Int.emod_lt_of_pos _ m0)
        · refine iteF ?_
          refine ⟨_, rfl, .inl ⟨_, rfl, _, _, rfl, rfl, (by show (0 : Int) < _; decide), _, rfl, .inl ⟨_, _, rfl, rfl, cmulL (by decide) (by decide), .inl ⟨_, _, rfl, rfl, .inl ⟨_, _, rfl, rfl, _, _, rfl, rfl, cpow5 (by omega) (by omega), .inl ⟨_, rfl, _, _, rfl, rfl, (by show (0 : Int) < _; decide), ?_⟩⟩⟩⟩⟩⟩
          refine ⟨_, rfl, _, rfl, .inl ⟨_, _, rfl, rfl, cmulL (by decide) (by decide), .inl ⟨_, _, rfl, rfl, .inl ⟨_, _, rfl, rfl, cmulL (Int.emod_nonneg _ (by decide)) (by omega), _, rfl, .inl ⟨_, _, rfl, rfl, cmulL (by decide) (by decide), _, rfl, .inl ⟨_, _, rfl, rfl, cmulL (by omega) (by omega), .inl ⟨_, _, rfl, rfl, .inl ⟨_, _, rfl, rfl, _, _, rfl, rfl, cpow3 (by omega) (by omega) (by omega) (by omega) (by omega) (by omega) a0 ha (by decide) (by decide), .inl ⟨_, rfl, _, _, rfl, rfl, (by show (0 : Int) < _; decide), ?_⟩⟩⟩⟩⟩⟩⟩⟩⟩
          refine ⟨_, rfl, _, _, rfl, rfl, ⟨by decide, by decide⟩, .inl ⟨_, rfl, _, rfl, _, _, rfl, rfl, m0, ?_⟩⟩
          exact k _ (a + 1) r _ k2 p2 (Int.le_refl _) (Int.emod_nonneg _ (by omega)) (Int.emod_lt_of_pos _ m0)
      · refine ⟨_, rfl, _, rfl, rd_ix p2.pen rfl ⟨_, _, rfl, .inl ⟨_, SqL.of p2.nums, rfl⟩, _, _, rfl, rfl, _, rfl, ?_⟩⟩
        refine ite2 (fun c1 => ?_) (fun c1 => ?_)
        · refine ⟨_, rfl, _, rfl, _, _, rfl, rfl, c18, _, _, rfl, rfl, _, rfl, ?_⟩
          refine ite2 (fun c2 => ?_) (fun c2 => ?_)
          · refine ⟨_, rfl, _, rfl, _, _, rfl, rfl, c18, _, _, rfl, rfl, .inl ⟨_, _, rfl, rfl, cmulL (by decide) (by decide), _, rfl, _, _, rfl, rfl, .inr ⟨_, rfl, .inl ⟨_, _, rfl, rfl, ?_⟩⟩⟩⟩
            refine ⟨_, rfl, .inl ⟨_, rfl, _, rfl, _, _, rfl, rfl, ⟨m0, m1⟩, ?_⟩⟩
            refine ⟨_, rfl, rd_set [.ref l, .int (a + 1), .int _] p2.pen rfl rfl ?_⟩
            refine ⟨_, rfl, .inl ⟨_, rfl, _, rfl, _, _, rfl, rfl, m0, ?_⟩⟩
            refine k _ (a + 1) _ _ (k2.trans Keep.upd) ⟨upd_same, by rw [upd_ne p2.ne]; exact p2.nums, p2.ne, p2.few, by omega, Int.ediv_nonneg ?_ (by omega)⟩ (by omega) (Int.emod_nonneg _ (by omega)) (Int.emod_lt_of_pos _ m0)
            have c2' := of_decide_eq_true c2
            rw [e18] at c2' ⊢
            split <;> omega
          · refine ⟨_, rfl, .inl ⟨_, rfl, _, _, rfl, rfl, (by show (0 : Int) < _; decide), _, rfl, .inl ⟨_, _, rfl, rfl, cmulL (by decide) (by decide), .inl ⟨_, _, rfl, rfl, .inl ⟨_, _, rfl, rfl, _, _, rfl, rfl, cpow5 (by omega) (by omega), .inl ⟨_, rfl, _, _, rfl, rfl, (by show (0 : Int) < _; decide), ?_⟩⟩⟩⟩⟩⟩
            refine ⟨_, rfl, _, rfl, .inl ⟨_, _, rfl, rfl, cmulL (by decide) (by decide), .inl ⟨_, _, rfl, rfl, .inl ⟨_, _, rfl, rfl, cmulL (Int.emod_nonneg _ (by decide)) (by omega), _, rfl, .inl ⟨_, _, rfl, rfl, cmulL (by decide) (by decide), _, rfl, .inl ⟨_, _, rfl, rfl, cmulL (by omega) (by omega), .inl ⟨_, _, rfl, rfl, .inl ⟨_, _, rfl, rfl, _, _, rfl, rfl, cpow3 (by omega) (by omega) (by omega) (by omega) (by omega) (by omega) a0 ha (by decide) (by decide), .inl ⟨_, rfl, _, _, rfl, rfl, (by show (0 : Int) < _; decide), ?_⟩⟩⟩⟩⟩⟩⟩⟩⟩
            refine ⟨_, rfl, _, _, rfl, rfl, ⟨by decide, by decide⟩, .inl ⟨_, rfl, _, rfl, _, _, rfl, rfl, m0, ?_⟩⟩
            exact k _ (a + 1) r _ k2 p2 (Int.le_refl _) (Int.emod_nonneg _ (by omega)) (Int.emod_lt_of_pos _ m0)
        · refine iteF ?_
          refine ⟨_, rfl, .inl ⟨_, rfl, _, _, rfl, rfl, (by show (0 : Int) < _; decide), _, rfl, .inl ⟨_, _, rfl, rfl, cmulL (by decide) (by decide), .inl ⟨_, _, rfl, rfl, .inl ⟨_, _, rfl, rfl, _, _, rfl, rfl, cpow5 (by omega) (by omega), .inl ⟨_, rfl, _, _, rfl, rfl, (by show (0 : Int) < _; decide), ?_⟩⟩⟩⟩⟩⟩
          refine ⟨_, rfl, _, rfl, .inl ⟨_, _, rfl, rfl, cmulL (by decide) (by decide), .inl ⟨_, _, rfl, rfl, .inl ⟨_, _, rfl, rfl, cmulL (Int.emod_nonneg _ (by decide)) (by omega), _, rfl, .inl ⟨_, _, rfl, rfl, cmulL (by decide) (by decide), _, rfl, .inl ⟨_, _, rfl, rfl, cmulL (by omega) (by omega), .inl ⟨_, _, rfl, rfl, .inl ⟨_, _, rfl, rfl, _, _, rfl, rfl, cpow3 (by omega) (by omega) (by omega) (by omega) (by omega) (by omega) a0 ha (by decide) (by decide), .inl ⟨_, rfl, _, _, rfl, rfl, (by show (0 : Int) < _; decide), ?_⟩⟩⟩⟩⟩⟩⟩⟩⟩
          refine ⟨_, rfl, _, _, rfl, rfl, ⟨by decide, by decide⟩, .inl ⟨_, rfl, _, rfl, _, _, rfl, rfl, m0, ?_⟩⟩
          exact k _ (a + 1) r _ k2 p2 (Int.le_refl _) (Int.emod_nonneg _ (by omega)) (Int.emod_lt_of_pos _ m0)
theorem ok_law_pick (T : Top w K mg) (D_law_draw : Def P w K mg base "_law_draw" 1 ["_law_pen_here", "_law_many"] spDraw) (F : Fn K "_law_pick" s_law_pick fd) : FnOk P w K mg base CX0 2 (He.ga K "_law_pick") fd ["_law_pen_here", "_law_some_here"] spPick := by
  refine F.ok sc_law_pick (fun vs H Q E h => ?_) (fun cdv A outer s H vs Q E hr h => ?_)
  · obtain ⟨p, l, q, ns, a, r, xs, rfl, _⟩ := h
    rfl
  · obtain ⟨p, l, q, ns, a, r, xs, rfl, pa, ha, hq, nq, pos, few, k⟩ := h
    refine ⟨_, PSs.nox (pss_one (ps_ret (pe_ix ix_seq (pv 1) (pe_callD D_law_draw (hr.mono (by decide)) rfl (pa_cons (pv 0) (pa_cons (pe_callB call_len rfl T.n_len (by decide +kernel) (pa_cons (pv 1) pa_nil)) pa_nil))) (fun _ _ => rfl)))), ?_⟩
    refine ⟨_, rfl, _, rfl, _, rfl, _, _, rfl, .inl ⟨_, SqL.of hq, rfl⟩, ?_⟩
    refine ⟨p, l, ns, a, r, _, rfl, pa, ha, by omega, by omega, fun H' a' r' d kp pa' la d0 d1 => ?_⟩
    obtain ⟨j, rfl⟩ : ∃ j : Nat, d = (j : Int) := ⟨_, (Int.toNat_of_nonneg d0).symm⟩
    have lt : j < xs.length := by omega
    refine rd_ix (kp _ _ nq hq) (atI_nat (List.getElem?_eq_getElem lt)) ?_
    exact k H' a' r' _ kp pa' la (List.getElem_mem lt)
end
end L2.K19
set_option Elab.async false
set_option linter.all false
set_option maxRecDepth 100000
set_option maxHeartbeats 4000000
/-! Keywords alone: C(k = v, ..), o(k = v, ..); C(e, .., *y). -/
namespace L2.RV
open PySem PySem.Spec PyProof.Rows StX
/-- C(k = v, ..): m keywords, nothing else -/
def tMakeK (C : Addr) (m : Nat) (sp : Sp) (gV : List V → List V → List V) (E : XK) (tk : TA) : TE := fun σ H Q => tk σ H fun zs H1 => zs.length = m ∧
  ∀ x dx, H1 x = none → H1 dx = none → dx ≠ x → sp (gV [.ref x] zs) (upd (upd H1 dx (.own x)) x (.ins C dx [])) (fun v H2 => v = .non ∧ Q (.ref x) H2) E
/-- o(k = v, ..): o an instance of C -/
def tCallK (X : Cx) (C : Addr) (m : Nat) (sp : Sp) (gV : List V → List V → List V) (E : XK) (tf : TE) (tk : TA) : TE := fun σ H Q => tf σ H fun y H1 => ∃ a, y = V.ref a ∧ tk σ H1 fun zs H2 => zs.length = m ∧ InsC X H2 a C ∧ sp (gV [.ref a] zs) H2 Q E
section
variable {X : Cx} {CX : CXT} {k : Nat} {f g C : Addr} {fd : FuncData} {ps ks : List Str} {sp : Sp} {E : XK} {x : Str} {p pos : Pos} {fe : Expr} {kws : List Keyword} {tf : TE} {tk : TA} {gv : List Value → List Value → List Value} {gV : List V → List V → List V}
theorem pe_makeK (M : Mk X.K C f) (F : FnOk X.prog X.w X.K X.mg X.base CX k f fd ps sp) (hr : Room (k + 1) X.A) (hg : Gl X x) (hm : X.mg x = some (.ref C)) (hb : KBn X.K fd ps 1 ks gv gV) (hx : Passes CX X E)
    (hkw : PK X kws tk) (hall : (backToKw pos (keywordEach kws X.env)).all (·.1.isSome) = true := by rfl) (hks : (backToKw pos (keywordEach kws X.env)).filterMap (·.1) = ks := by rfl)
    (hdb : (x == ("__debug__" : Str)) = false := by decide)
    (hpl : ((backTo pos (starEach [] X.env)).any (·.1) || (backToKw pos (keywordEach kws X.env)).any (·.1.isNone)) = false := by rfl) :
    PE X (.Call (.Name x p) [] kws pos) (tMakeK C ks.length sp gV E tk) := by
  refine ⟨fun pins s σ H Q I h => ?_⟩
  refine wpAny_Call_Name_kw (ld_glob I hg hm ?_ hdb)
  refine PySem.W.callWith_KW0 (h₀ := X.base) I.ok.mod.kin M.kp hall ?_ hpl
  refine thn (hkw.run pos pins s σ H _ I h) fun ws s2 ⟨zs, H2, I2, rz, l2, q2⟩ => ⟨I2.kIn, ?_⟩
  rw [hks]
  exact run_makeN (n := 0) M F hr hb hx I2 .nil rz rfl l2 q2
theorem run_callK {pins : List (Addr × Obj)} {σ : L2.St} {H : Hp} {s : Shared} {Q : VK} {a : Addr} {ws : List Value} {zs : List V} (c : CallO X.K C g) (F : FnOk X.prog X.w X.K X.mg X.base CX k g fd ps sp) (hr : Room k X.A) (hb : KBn X.K fd ps 1 ks gv gV) (hx : Passes CX X E)
    (I : Inv X pins σ H s) (hi : InsC X H a C) (rz : Vals zs ws) (l : zs.length = ks.length) (h : sp (gV [.ref a] zs) H Q E) : wpAny (model X.prog X.w) X.A (call (.ref a) [] (ks.zip ws)) (EP X pins σ Q) X.xe s := by
  obtain ⟨ox, od, J, hd⟩ := insC_at I hi
  have r1 : Vals [V.ref a] [Value.ref a] := .cons rfl .nil
  refine wpAny_call (PySem.W.kco_code I.kIn J hd c.at_ c.fn c.fi (codeAny_mono (F.run X.A X.stack s H ⟨[Value.ref a], ks.zip ws⟩ (gv [Value.ref a] ws) _ Q E hr I.env0 (hb.to _ [Value.ref a] ws I.kIn rfl (rz.length.symm.trans l)) (hb.rel r1 rz) h) fun r s' hq => ?_))
  cases r with
  | error e => exact hx pins σ H s e s' I hq
  | ok fl =>
    cases fl with
    | ret u => exact I.after hq
    | next => exact False.elim hq
    | brk => exact False.elim hq
    | cont => exact False.elim hq
/-- the call's node where the callee is an instance, with keywords -/
theorem callK_of {M : Model} {A : Around} {E : Value → Shared → Prop} {s : Shared} {a : Addr} {pos : Pos} {Q : Value → Shared → Prop} {args : List (Bool × Sem Value)} {kws : List (Option Str × Sem Value)} (hplain : (args.any (·.1) || kws.any (·.1.isNone)) = false)
    (h : wpAny M A (evalArgs (.ref a) true args kws) (fun z s₁ => (∃ C ox od, PySem.W.InstAt s₁.heap a ox C od ∧ ox.data = .plain) ∧ wpAny M A (call (.ref a) ([] ++ z.pos) z.kw) Q E s₁) E s) : wpAny M A (callWith pos (.ref a) [] args kws) Q E s := by
  unfold callWith
  refine wpAny_bind (wpAny_holding (wpAny_mono h (fun z s₁ h₁ => wpAny_bind (wpAny_standAt ?_)) fun _ _ y => y))
  obtain ⟨⟨C, ox, od, J, hd⟩, h₁⟩ := h₁
  have L := PySem.W.kco_keeper (M := M) J hd
  simp only [hplain]
  refine wpAny_bind (L.here ?_)
  have tail : ∀ {t : Sem Value}, wpAny M A t Q E s₁ → wpAny M A (t >>= fun r => holding [r] point >>= fun _ => pure r) Q E s₁ :=
    fun ht => wpAny_bind (wpAny_mono ht (fun r s₂ hr => wpAny_bind (wpAny_holding (wpAny_point (wpAny_pure hr)))) fun _ _ y => y)
  exact tail (wpAny_operateT h₁)
theorem pe_callK (hf : PE X fe tf) (c : CallO X.K C g) (F : FnOk X.prog X.w X.K X.mg X.base CX k g fd ps sp) (hr : Room k X.A) (hb : KBn X.K fd ps 1 ks gv gV) (hx : Passes CX X E) (hkw : PK X kws tk)
    (hall : (backToKw pos (keywordEach kws X.env)).all (·.1.isSome) = true := by rfl) (hks : (backToKw pos (keywordEach kws X.env)).filterMap (·.1) = ks := by rfl)
    (hpl : ((backTo pos (starEach [] X.env)).any (·.1) || (backToKw pos (keywordEach kws X.env)).any (·.1.isNone)) = false := by rfl)
    (ht : eval (.Call fe [] kws pos) X.env = (do callWith pos (← eval fe X.env) [] (backTo pos (starEach [] X.env)) (backToKw pos (keywordEach kws X.env))) := by rfl) :
    PE X (.Call fe [] kws pos) (tCallK X C ks.length sp gV E tf tk) := by
  refine ⟨fun pins s σ H Q I h => ?_⟩
  rw [ht]
  refine wpAny_bind (thn (hf.run pins s σ H _ I h) fun u s1 ⟨y, H1, I1, ry, a, ey, q⟩ => ?_)
  subst ey
  obtain rfl : u = Value.ref a := ry
  refine callK_of hpl (evalArgs_kw2_nil hall (thn (hkw.run pos pins s1 σ H1 _ I1 q) fun ws s2 ⟨zs, H2, I2, rz, l, hi, q2⟩ => ?_))
  obtain ⟨ox, od, J, hd⟩ := insC_at I2 hi
  refine ⟨⟨C, ox, od, J, hd⟩, ?_⟩
  rw [hks]
  exact run_callK c F hr hb hx I2 hi rz l q2
end
section
variable {X : Cx} {CX : CXT} {k : Nat} {f C : Addr} {sp : Sp} {E : XK} {x : Str} {p pos : Pos} {e : Expr} {es : List Expr} {t : TA}
/-- C(e, .., *y): C an own class, its __init__ promised by positions -/
theorem pe_makeS2 (M : Mk X.K C f) (F : FnR X.prog X.w X.K X.mg X.base CX k f sp) (hr : Room (k + 1) X.A) (hg : Gl X x) (hm : X.mg x = some (.ref C)) (hx : Passes CX X E) (ha : PA X (e :: es) t) (hdb : (x == ("__debug__" : Str)) = false := by decide)
    (he : starEach (e :: es) X.env = (false, eval e X.env) :: starEach es X.env := by rfl) (hst : (backTo pos (starEach es X.env)).any (·.1) = true := by rfl) : PE X (.Call (.Name x p) (e :: es) [] pos) (tMakeR C sp E t) := by
  refine ⟨fun pins s σ H Q I h => ?_⟩
  refine wpAny_Call_Name_kw (ld_glob I hg hm ?_ hdb)
  refine PySem.W.callWith_S2 (h₀ := X.base) I.ok.mod.kin M.kp (thn (ha.run pos pins s σ H _ I h) fun us s1 ⟨vs, H1, I1, r, q⟩ => ⟨I1.kIn, ?_⟩) he hst
  exact run_makeR M F hr hx I1 r q
end
end L2.RV
set_option Elab.async false
set_option linter.all false
set_option maxRecDepth 100000
set_option maxHeartbeats 4000000
/-! Own exceptions raised: their fields stand in a new dict. -/
namespace L2.RV
open PySem PySem.Spec PyProof.Rows
/-- the promise of an __init__ that stores its parameters ff; the dict is new -/
def spErrN (K : PySem.W.Frag) (ff : List Str) : Sp := fun vs H Q _ => ∃ (a C : Addr) (ws : List V), vs = .ref a :: ws ∧ ws.length = ff.length ∧ OexC K C ∧ (∀ f ∈ ff, PySem.W.findIn K (.ref C) f = some none) ∧ H a = some (exo a C none) ∧
  ∀ (H' : Hp) (d : Addr) (fs : List (Str × V)), (∀ b o, b ≠ a → H b = some o → H' b = some o) → H d = none → H' a = some (exo a C (some d)) → H' d = some (exd d fs) → (∀ f v, (ff.zip ws).lookup f = some v → fs.lookup f = some v) → Q .non H'
/-- what is asked of a class that is raised -/
structure RzX (P : Program) (w : World) (K : PySem.W.Frag) (mg : Str → Option Value) (base : Heap) (x : Str) (C : Addr) (ff : List Str) : Prop where
  ex : ∃ fI fd, mg x = some (.ref C) ∧ OexC K C ∧ (∀ f ∈ ff, PySem.W.findIn K (.ref C) f = some none) ∧ PySem.W.findIn K (.ref C) "__init__" = some (some (.ref fI)) ∧ PySem.W.typeIn K (.ref fI) = some (.type "function") ∧
    FnOk P w K mg base CX0 1 fI fd (("self" : Str) :: ff) (spErrN K ff) ∧ Binds K fd (("self" : Str) :: ff) []
/-- the fields of a raised error, in its dict at d -/
def ErrX (H : Hp) (d : Addr) (l : List (Str × V)) : Prop := ∃ fs, H d = some (.xd fs) ∧ ∀ f v, l.lookup f = some v → fs.lookup f = some v
theorem ErrX.same {H H' : Hp} {d : Addr} {l : List (Str × V)} (x : ErrX H d l) (s : Same H H') : ErrX H' d l := by
  obtain ⟨fs, a, b⟩ := x
  exact ⟨fs, s _ _ a, b⟩
theorem ErrX.caught {H : Hp} {e C d : Addr} {l : List (Str × V)} (x : ErrX H d l) (n : H e = none) : ErrK (upd H e (exk (.ref C) (some d) e)) e C l := by
  obtain ⟨fs, a, b⟩ := x
  refine ⟨d, upd_same, fs, ?_, b⟩
  rw [upd_ne (ne_of_none a n)]
  exact a
section
variable {X : Cx} {x : Str} {C : Addr} {ff : List Str} {p pos pos' : Pos} {e : Expr} {es : List Expr} {ta : TA}
theorem ps_rz {W : WX} (R : RzX X.prog X.w X.K X.mg X.base x C ff) (hc : X.calm = true) (hr : Room 2 X.A) (tk : Takes X W) (hg : Gl X x) (ha : PA X (e :: es) ta) (hdb : (x == ("__debug__" : Str)) = false := by decide)
    (he : starEach (e :: es) X.env = (false, eval e X.env) :: starEach es X.env := by rfl) (hpl : (backTo pos (starEach es X.env)).any (·.1) = false := by rfl) :
    PS X (.Raise (some (.Call (.Name x p) (e :: es) [] pos)) none pos') (fun _ σ H => tMkO C (spErrN X.K ff) [] ta σ H fun cls d H' => W cls d σ H') := by
  obtain ⟨fI, fd, gC, o, no, iC, tI, F, b⟩ := R.ex
  exact ps_raise hc tk (pmk_oex o iC tI F hr b .nil pass0 hg gC ha hdb he hpl)
theorem rz_ok {P : Program} {w : World} {K : PySem.W.Frag} {mg : Str → Option Value} {base : Heap} {H1 : Hp} {vs : List V} {Q : XK} (R : RzX P w K mg base x C ff) (l : vs.length = ff.length) (few : ff.length ≤ 1000)
    (k : ∀ d H2, Same H1 H2 → ErrX H2 d (ff.zip vs) → Q (.ref C) (some d) H2) :
    vs.length ≤ 1000 ∧ ∀ a, H1 a = none → spErrN K ff (.ref a :: (vs ++ [])) (upd H1 a (exo a C none))
      (fun v H2 => v = .non ∧ ∃ (d : Addr) (fs : List (Str × V)), H2 a = some (exo a C (some d)) ∧ H2 d = some (exd d fs) ∧ H1 d = none ∧ Q (.ref C) (some d) (upd (del H2 a) d (.xd fs))) (fun _ _ _ => False) := by
  obtain ⟨fI, fd, gC, o, no, _⟩ := R.ex
  refine ⟨by rw [l]; exact few, fun a na => ⟨a, C, vs ++ [], rfl, by rw [List.append_nil]; exact l, o, no, upd_same, fun H' d fs keep nd ha hd look => ?_⟩⟩
  have da : d ≠ a := fun z => by
    rw [z, upd_same] at nd
    cases nd
  rw [upd_ne da] at nd
  refine ⟨rfl, d, fs, ha, hd, nd, k d _ (fun b u z => ?_) ⟨fs, upd_same, fun f v z => look f v (by rw [List.append_nil]; exact z)⟩⟩
  have ba := ne_of_none z na
  have bd := ne_of_none z nd
  rw [upd_ne bd, del_ne ba]
  exact keep b u ba (by rw [upd_ne ba]; exact z)
end
section
variable {P : Program} {w : World} {K : PySem.W.Frag} {mg : Str → Option Value} {base : Heap} {qual f g : Str} {fI : Addr} {fd : FuncData} {p1 p2 p3 q1 q2 q3 q4 r1 r2 r3 r4 : Pos}
theorem ok_init1N (F : FunD K "__init__" qual (args1 f p1 p2) (body1 f q1 q2 q3 q4) (scope1 f) [] [] fI fd) (S : FnScope ["self", f] ["self", f] (scope1 f)) (v0 : (scope1 f).names.lookup ("self" : Str) = some .local) (v1 : (scope1 f).names.lookup f = some .local)
    (d1 : (f == ("__debug__" : Str)) = false) (c1 : (f == ("__classdict__" : Str)) = false) (hs : ∀ env, swapsWith (.Name f q3) (some (.Attribute (.Name "self" q1) f q2)) q4.line env = pure false) :
    FnOk P w K mg base CX0 1 fI fd ["self", f] (spErrN K [f]) := by
  refine F.ok S (fun vs H Q E h => ?_) (fun cdv A outer s H vs Q E hr h => ?_)
  · obtain ⟨a, C, ws, rfl, l, _⟩ := h
    exact congrArg Nat.succ l
  · obtain ⟨a, C, ws, rfl, l, T, no, at_, k⟩ := h
    obtain ⟨v, rfl⟩ : ∃ v, ws = [v] := List.length_eq_one_iff.mp l
    refine ⟨_, PSs.nox (pss_one (ps_ost (pe_var (i := 0) rfl (.inl v0)) (pe_var (i := 1) rfl (.inl v1) d1 c1) (hs _))), ?_⟩
    refine ⟨v, rfl, .ref a, rfl, a, C, rfl, T, no f (List.mem_singleton.mpr rfl), .inl ⟨at_, fun dx nd ne => ?_⟩⟩
    refine k _ dx [(f, v)] (fun b o nb z => ?_) nd upd_same (by rw [upd_ne ne, upd_same]) (fun f' v' z => z)
    rw [upd_ne nb, upd_ne (ne_of_none z nd)]
    exact z
theorem ok_init2N (F : FunD K "__init__" qual (args2 f g p1 p2 p3) (body2 f g q1 q2 q3 q4 r1 r2 r3 r4) (scope2 f g) [] [] fI fd) (S : FnScope ["self", f, g] ["self", f, g] (scope2 f g)) (ng : f ≠ g) (v0 : (scope2 f g).names.lookup ("self" : Str) = some .local)
    (v1 : (scope2 f g).names.lookup f = some .local) (v2 : (scope2 f g).names.lookup g = some .local) (d1 : (f == ("__debug__" : Str)) = false) (c1 : (f == ("__classdict__" : Str)) = false) (d2 : (g == ("__debug__" : Str)) = false) (c2 : (g == ("__classdict__" : Str)) = false)
    (h1 : ∀ env, swapsWith (.Name f q3) (some (.Attribute (.Name "self" q1) f q2)) q4.line env = pure false) (h2 : ∀ env, swapsWith (.Name g r3) (some (.Attribute (.Name "self" r1) g r2)) r4.line env = pure false) :
    FnOk P w K mg base CX0 1 fI fd ["self", f, g] (spErrN K [f, g]) := by
  refine F.ok S (fun vs H Q E h => ?_) (fun cdv A outer s H vs Q E hr h => ?_)
  · obtain ⟨a, C, ws, rfl, l, _⟩ := h
    exact congrArg Nat.succ l
  · obtain ⟨a, C, ws, rfl, l, T, no, at_, k⟩ := h
    obtain ⟨v, u, rfl⟩ : ∃ v u, ws = [v, u] := by
      match ws, l with
      | [v, u], _ => exact ⟨v, u, rfl⟩
    refine ⟨_, PSs.nox (pss_cons (ps_ost (pe_var (i := 0) rfl (.inl v0)) (pe_var (i := 1) rfl (.inl v1) d1 c1) (h1 _)) (pss_one (ps_ost (pe_var (i := 0) rfl (.inl v0)) (pe_var (i := 2) rfl (.inl v2) d2 c2) (h2 _)))), ?_⟩
    refine ⟨v, rfl, .ref a, rfl, a, C, rfl, T, no f (by simp), .inl ⟨at_, fun dx nd ne => ?_⟩⟩
    refine ⟨u, rfl, .ref a, rfl, a, C, rfl, T, no g (by simp), .inr ⟨dx, [(f, v)], upd_same, by rw [upd_ne ne, upd_same], by show 1 ≤ 900; decide, ?_⟩⟩
    refine k _ dx [(g, u), (f, v)] (fun b o nb z => ?_) nd (by rw [upd_ne ne.symm, upd_same]) upd_same (fun f' v' z => ?_)
    · have nbd := ne_of_none z nd
      rw [upd_ne nbd, upd_ne nb, upd_ne nbd]
      exact z
    · have z' : List.lookup f' [(f, v), (g, u)] = some v' := z
      rw [lookup_put] at z'
      rw [lookup_put]
      by_cases e1 : f' = f
      · rw [if_pos e1] at z'
        cases z'
        rw [if_neg (fun e2 => ng (e1.symm.trans e2)), e1]
        exact look1 rfl
      · rw [if_neg e1, lookup_put] at z'
        by_cases e2 : f' = g
        · rw [if_pos e2] at z' ⊢
          exact z'
        · rw [if_neg e2] at z'
          cases z'
end
end L2.RV
set_option Elab.async false
set_option linter.all false
set_option maxRecDepth 100000
set_option maxHeartbeats 4000000
/-! What is asked of shapes, parts and tables that are handed. -/
namespace L2.K19
open PySem PySem.Spec PyProof.Rows L2.RV
/-- an instance of the class x of the text stands at a -/
def InsOf (K : PySem.W.Frag) (H : Hp) (x : Str) (a : Addr) : Prop := ∃ dx fs, H a = some (.ins (He.ga K x) dx fs)
/-- a def of one parameter that is handed an instance of x: no answer, no trace -/
def spIns (K : PySem.W.Frag) (x : Str) : Sp := fun vs H Q _ => ∃ a, vs = [.ref a] ∧ InsOf K H x a ∧ Q .non H
/-- a def whose global is x, its own name q -/
abbrev FnA (K : PySem.W.Frag) (x q : Str) (st : Stmt) (fd : FuncData) : Prop := FunD K q q (defArgs st) (defBody st) (defScope st) [] [] (He.ga K x) fd
section
variable {P : Program} {w : World} {K : PySem.W.Frag} {mg : Str → Option Value} {base : Heap} {fd : FuncData}
/-- the type of an instance of x, and whether it is one of y -/
theorem ins_kit {H : Hp} {x y : Str} {a : Addr} (o : Owns K own x) (o' : Owns K own y) (c : Cls K (He.ga K x)) (e : InsOf K H x a) (hx : x ∈ own) : TyX K H (.ref a) (.ref (He.ga K x)) ∧ PySem.W.kitOne K (.ref (He.ga K x)) (.ref (He.ga K y)) = some (decide (x = y)) := by
  obtain ⟨dx, fs, e⟩ := e
  exact ⟨ins_ty o c e, (o'.kit x hx).1⟩
theorem ok_check_shape_parts (T : Top w K mg) (R_BadPart : RzX P w K mg base "BadPart" (ca K 5) ["part"]) (F : FnA K "check_shape_parts" "check_shape" s_check_shape_parts fd) : FnOk P w K mg base (L2.CX P w) 3 (He.ga K "check_shape_parts") fd ["shape"] (spIns K "Shape") := by
  refine F.ok sc_check_shape_parts (fun vs H Q E h => ?_) (fun cdv A outer s H vs Q E hr h => ?_)
  · obtain ⟨a, rfl, _⟩ := h
    rfl
  · obtain ⟨a, rfl, o, k⟩ := h
    refine ⟨_, (pss_one (ps_if (pt_not (pt_val (pe_callB call_isi rfl T.n_isinstance (by decide +kernel) (pa_cons (pv 0) (pa_cons (pe_glob (v := .ref (He.ga K "Shape")) rfl T.g_Shape rfl) pa_nil))))) (pss_one (ps_rz R_BadPart rfl (hr.mono (by decide)) (takes_of rfl rfl rfl rfl) rfl (pa_cons pe_str pa_nil))) pss_nil)), ?_⟩
    obtain ⟨ty, kt⟩ := ins_kit T.o_Shape T.o_Shape T.k_Shape o (by decide)
    exact ⟨_, rfl, _, _, _, _, _, rfl, .own _, ty, kt, _, rfl, k⟩
theorem ok_check_shape_questions (T : Top w K mg) (R_BadQuestion : RzX P w K mg base "BadQuestion" (ca K 6) ["part"]) (F : FnA K "check_shape_questions" "check_shape" s_check_shape_questions fd) : FnOk P w K mg base (L2.CX P w) 3 (He.ga K "check_shape_questions") fd ["shape"] (spIns K "Shape") := by
  refine F.ok sc_check_shape_questions (fun vs H Q E h => ?_) (fun cdv A outer s H vs Q E hr h => ?_)
  · obtain ⟨a, rfl, _⟩ := h
    rfl
  · obtain ⟨a, rfl, o, k⟩ := h
    refine ⟨_, (pss_one (ps_if (pt_not (pt_val (pe_callB call_isi rfl T.n_isinstance (by decide +kernel) (pa_cons (pv 0) (pa_cons (pe_glob (v := .ref (He.ga K "Shape")) rfl T.g_Shape rfl) pa_nil))))) (pss_one (ps_rz R_BadQuestion rfl (hr.mono (by decide)) (takes_of rfl rfl rfl rfl) rfl (pa_cons pe_str pa_nil))) pss_nil)), ?_⟩
    obtain ⟨ty, kt⟩ := ins_kit T.o_Shape T.o_Shape T.k_Shape o (by decide)
    exact ⟨_, rfl, _, _, _, _, _, rfl, .own _, ty, kt, _, rfl, k⟩
end
end L2.K19
set_option Elab.async false
set_option linter.all false
set_option maxRecDepth 100000
set_option maxHeartbeats 4000000
/-! Shapes as they stand. -/
namespace L2.K19
open PySem PySem.Spec PyProof.Rows L2.RV
/-- the places of a shape, in order -/
def placesOf (ks : List Str) (d : Nat) : List (Str × Nat) := ks.flatMap fun k => (List.range d).map fun i => (k, i)
def plV (p : Str × Nat) : List V := [.str p.1, .int p.2]
def plK (p : Str × Nat) : List L2.Key := [.inr p.1, .inl p.2]
/-- keys and days of a shape -/
structure ShOk (ks : List Str) (d : Nat) : Prop where
  nd : ks.Nodup
  names : ∀ x ∈ ks, isName x = true
  k1 : 1 ≤ ks.length
  k6 : ks.length ≤ 6
  d1 : 1 ≤ d
  d8 : d ≤ 8
  few : ks.length * d ≤ 36
/-- a shape stands at a: its keys in order, its days -/
structure ShapeAt (K : PySem.W.Frag) (H : Hp) (a : Addr) (ks : List Str) (d : Nat) : Prop where
  ex : ∃ (dx t1 t2 t3 : Addr) (ps : List Addr), H a = some (.ins (He.ga K "Shape") dx [("key_names", .ref t1), ("days", .int d), ("places", .ref t2), ("indexes", .ref t3)]) ∧ H dx = some (.own a) ∧ Rd H t1 (.tup (ks.map V.str)) ∧ Rd H t2 (.tup (ps.map V.ref)) ∧
    ps.length = (placesOf ks d).length ∧ (∀ (i : Nat) (p : Str × Nat) (b : Addr), (placesOf ks d)[i]? = some p → ps[i]? = some b → H b = some (.tup (plV p))) ∧ Rd H t3 (.dT ((placesOf ks d).zipIdx.map fun z => (plK z.1, .int z.2)))
  good : (ks.all fun x => PyData.strOk x) = true
  ok : ShOk ks d
theorem ShapeAt.ins {K : PySem.W.Frag} {H : Hp} {a : Addr} {ks : List Str} {d : Nat} (s : ShapeAt K H a ks d) : InsOf K H "Shape" a := by
  obtain ⟨dx, t1, t2, t3, ps, e, _⟩ := s.ex
  exact ⟨_, _, e⟩
def keysD (ks : List Str) : PyData := .tuple (ks.map PyData.str)
theorem shaped_keys {xs : List Str} (h : (xs.all fun x => PyData.strOk x) = true) : SeqAt.shaped (keysD xs) = true := by
  have z := deep_str xs
  have e : PyData.canLay0 (.tuple (xs.map PyData.str)) = true := by simp only [PyData.canLay0]; exact lay_str xs h
  have d : (PyData.tuple (xs.map PyData.str)).depth ≤ 64 := by simp only [PyData.depth]; omega
  unfold SeqAt.shaped keysD
  rw [e, decide_eq_true d]
  rfl
def shapeEq (ks : List Str) (d : Nat) (ls : List Str) (e : Nat) : Bool := PyData.eqv (keysD ks) (keysD ls) && decide (V.int (d : Int) = V.int (e : Int))
/-- shape == shape -/
def spShapeEq (K : PySem.W.Frag) : Sp := fun vs H Q _ => ∃ a b ks d ls e, vs = [.ref a, .ref b] ∧ ShapeAt K H a ks d ∧ ShapeAt K H b ls e ∧ Q (.bl (shapeEq ks d ls e)) H
section
variable {P : Program} {w : World} {K : PySem.W.Frag} {mg : Str → Option Value} {base : Heap} {fd : FuncData}
theorem ok_shape_eq (T : Top w K mg) {f : Addr} (F : FunD K "__eq__" "Shape.__eq__" (defArgs s_Shape_eq) (defBody s_Shape_eq) (defScope s_Shape_eq) [] [] f fd) : FnOk P w K mg base CX0 2 f fd ["self", "other"] (spShapeEq K) := by
  refine F.ok sc_Shape_eq (fun vs H Q E h => ?_) (fun cdv A outer s H vs Q E hr h => ?_)
  · obtain ⟨a, b, ks, d, ls, e, rfl, _⟩ := h
    rfl
  · obtain ⟨a, b, ks, d, ls, e, rfl, s1, s2, k⟩ := h
    have hu := hr.units
    refine ⟨_, PSs.nox (pss_one (ps_ret (pe_and (pe_callB call_isi rfl T.n_isinstance (by decide +kernel) (pa_cons (pv 1) (pa_cons (pe_glob (v := .ref (He.ga K "Shape")) rfl T.g_Shape rfl) pa_nil)))
      (pe_and (pe_cmpR (op_same hu) (pe_fld (pv 0) rfl) (pe_fld (pv 1) rfl) (nomark _)) (pe_one (pe_cmpR (op_same hu) (pe_fld (pv 0) rfl) (pe_fld (pv 1) rfl) (nomark _))))))), ?_⟩
    obtain ⟨ty, kt⟩ := ins_kit T.o_Shape T.o_Shape T.k_Shape s2.ins (by decide)
    refine ⟨_, rfl, _, _, _, _, _, rfl, .own _, ty, kt, _, rfl, ?_⟩
    obtain ⟨dx, t1, t2, t3, ps, e1, _, q1, _⟩ := s1.ex
    obtain ⟨dy, u1, u2, u3, qs, e2, _, q2, _⟩ := s2.ex
    refine ⟨_, rfl, a, _, dx, _, _, rfl, e1, T.k_Shape, T.a_Shape_key_names, rfl, _, rfl, b, _, dy, _, _, rfl, e2, T.k_Shape, T.a_Shape_key_names, rfl, ?_⟩
    refine .inr ⟨keysD ks, keysD ls, .tup (.inl q1) (dpA_str ks), .tup (.inl q2) (dpA_str ls), shaped_keys s1.good, shaped_keys s2.good, _, rfl, ?_⟩
    unfold shapeEq at k
    cases c : PyData.eqv (keysD ks) (keysD ls) with
    | false =>
      rw [c] at k
      exact k
    | true =>
      rw [c, Bool.true_and] at k
      refine ⟨_, rfl, a, _, dx, _, _, rfl, e1, T.k_Shape, T.a_Shape_days, rfl, _, rfl, b, _, dy, _, _, rfl, e2, T.k_Shape, T.a_Shape_days, rfl, ?_⟩
      exact .inl ⟨rfl, k⟩
end
end L2.K19
set_option Elab.async false
set_option linter.all false
set_option maxRecDepth 100000
set_option maxHeartbeats 4000000
/-! Whether a place is a shape's. -/
namespace L2.K19
open PySem PySem.Spec PyProof.Rows L2.RV
/-- the place's tuple stands at b -/
def PlAt (H : Hp) (b : Addr) (p : Str × Nat) : Prop := H b = some (.tup (plV p))
/-- place in shape -/
def spShapeIn (K : PySem.W.Frag) : Sp := fun vs H Q _ => ∃ a b ks d p, vs = [.ref a, .ref b] ∧ ShapeAt K H a ks d ∧ PlAt H b p ∧ Q (.bl (decide (p ∈ placesOf ks d))) H
theorem valV_places {p : Str × Nat} : ∀ (l : List (Str × Nat)) (n : Nat), (valV ((l.zipIdx n).map fun z => (plK z.1, V.int z.2)) (plK p)).isSome = decide (p ∈ l)
  | [], n => by simp [valV]
  | q :: l, n => by
    have z := valV_places (p := p) l (n + 1)
    by_cases e : q = p
    · subst e
      rw [List.zipIdx_cons, List.map_cons, valV_pos rfl]
      simp
    · have ne : ¬ plK q = plK p := fun h => e (by
        unfold plK at h
        simp only [List.cons.injEq, Sum.inr.injEq, Sum.inl.injEq, and_true] at h
        exact Prod.ext h.1 (by omega))
      rw [List.zipIdx_cons, List.map_cons, valV_neg ne, z]
      have ne' : ¬ p = q := fun h => e h.symm
      simp [ne']
section
variable {P : Program} {w : World} {K : PySem.W.Frag} {mg : Str → Option Value} {base : Heap} {fd : FuncData}
theorem ok_shape_in (T : Top w K mg) (D_is_whole : Def P w K mg base "is_whole" 1 ["value"] (spWhole K)) {f : Addr} (F : FunD K "__contains__" "Shape.__contains__" (defArgs s_Shape_contains) (defBody s_Shape_contains) (defScope s_Shape_contains) [] [] f fd) : FnOk P w K mg base CX0 3 f fd ["self", "x"] (spShapeIn K) := by
  refine F.ok sc_Shape_contains (fun vs H Q E h => ?_) (fun cdv A outer s H vs Q E hr h => ?_)
  · obtain ⟨a, b, ks, d, p, rfl, _⟩ := h
    rfl
  · obtain ⟨a, b, ks, d, p, rfl, s1, pb, k⟩ := h
    have hu := hr.units
    refine ⟨_, PSs.nox (pss_cons (ps_if (PW.pt (pw_or (pt_not (pt_val (pe_callB call_isi rfl T.n_isinstance (by decide +kernel) (pa_cons (pv 1) (pa_cons (pe_bltn (v := .ty "tuple") (u := .type "tuple") rfl T.n_tuple (by decide +kernel) rfl) pa_nil)))))
      (pw_or1 (pt_cmpR (op_diff hu) (pe_callB call_len rfl T.n_len (by decide +kernel) (pa_cons (pv 1) pa_nil)) pe_int (nomark _))))) (pss_one (ps_ret pe_bl)) pss_nil)
      (pss_cons (ps_asg (pv 1) (pg_tup rfl (pgs_cons (pg_name (i := 2) sc_Shape_contains.nd rfl (by first | exact Or.inl rfl | exact Or.inr rfl)) (pgs_cons (pg_name (i := 3) sc_Shape_contains.nd rfl (by first | exact Or.inl rfl | exact Or.inr rfl)) pgs_nil))))
      (pss_one (ps_ret (pe_and (pe_callB call_isi rfl T.n_isinstance (by decide +kernel) (pa_cons (pv 2) (pa_cons (pe_bltn (v := .ty "str") (u := .type "str") rfl T.n_str (by decide +kernel) rfl) pa_nil)))
        (pe_and (pe_callD D_is_whole (hr.mono (by decide)) rfl (pa_cons (pv 3) pa_nil)) (pe_one (pe_cmp (pc_din (Nat.lt_of_le_of_lt (Nat.add_le_add_left (by decide) _) hu) (pv 1) (pe_fld (pv 0) rfl)) rfl)))))))), ?_⟩
    have tb : TyX K H (.ref b) (.type "tuple") := .base (.tup pb)
    refine ⟨_, rfl, _, _, _, _, _, rfl, .ty "tuple", tb, kit_ty (by decide +kernel : kitB "tuple" "tuple" = some true), _, rfl, ?_⟩
    refine (if_neg (by decide : ¬ ((!true) = true))).mpr ?_
    refine ⟨_, rfl, _, _, rfl, .inr ⟨plV p, SqT.of pb, rfl⟩, .inl ⟨rfl, _, rfl, ?_⟩⟩
    refine (if_neg (by show ¬ (!decide (V.int 2 = V.int 2)) = true; decide)).mpr ?_
    refine ⟨_, rfl, b, plV p, rfl, SqT.of pb, rfl, _, _, rfl, _, _, rfl, rfl, ?_⟩
    obtain ⟨n, ty, ki, kb, kt⟩ := (kinds_str (K := K) (H := H) p.1).ex
    refine ⟨_, rfl, _, _, _, _, _, rfl, .ty "str", ty, kit_ty kt, _, rfl, ?_⟩
    refine ⟨_, rfl, .int p.2, rfl, kinds_int _, _, rfl, ?_⟩
    obtain ⟨dx, t1, t2, t3, ps, e1, _, _, _, _, _, e3⟩ := s1.ex
    refine ⟨_, rfl, _, rfl, a, _, dx, _, _, rfl, e1, T.k_Shape, T.a_Shape_indexes, rfl, t3, _, rfl, (.inr ⟨_, plK p, b, e3, rfl, pb, rfl⟩), ?_⟩
    rw [valV_places]
    exact k
end
end L2.K19
set_option Elab.async false
set_option linter.all false
set_option maxRecDepth 100000
set_option maxHeartbeats 4000000
/-! Parts, tables and questions of a shape. -/
namespace L2.K19
open PySem PySem.Spec PyProof.Rows L2.RV
/-- an instance of x at a, its shape at s -/
def OfShape (K : PySem.W.Frag) (H : Hp) (x : Str) (a s : Addr) : Prop := ∃ dx fs, H a = some (.ins (He.ga K x) dx fs) ∧ fs.lookup ("shape" : Str) = some (V.ref s)
theorem OfShape.ins {K : PySem.W.Frag} {H : Hp} {x : Str} {a s : Addr} (o : OfShape K H x a s) : InsOf K H x a := by
  obtain ⟨dx, fs, e, _⟩ := o
  exact ⟨_, _, e⟩
/-- is_part_of(value, shape) and the like, value of this very class -/
def spIsOf (K : PySem.W.Frag) (x : Str) : Sp := fun vs H Q _ => ∃ a b s ks d ls e, vs = [.ref a, .ref b] ∧ OfShape K H x a s ∧ ShapeAt K H s ks d ∧ ShapeAt K H b ls e ∧ Q (.bl (shapeEq ks d ls e)) H
section
variable {P : Program} {w : World} {K : PySem.W.Frag} {mg : Str → Option Value} {base : Heap} {fd : FuncData}
end
end L2.K19
set_option Elab.async false
set_option linter.all false
set_option maxRecDepth 100000
set_option maxHeartbeats 4000000
/-! The other one is of the same shape. -/
namespace L2.K19
open PySem PySem.Spec PyProof.Rows L2.RV
/-- check_other(one, other), both of the class x, of equal shapes -/
def spOther (K : PySem.W.Frag) (x : Str) : Sp := fun vs H Q _ => ∃ a b s t ks d ls e, vs = [.ref a, .ref b] ∧ OfShape K H x a s ∧ OfShape K H x b t ∧ ShapeAt K H s ks d ∧ ShapeAt K H t ls e ∧ shapeEq ls e ks d = true ∧ Q .non H
section
variable {P : Program} {w : World} {K : PySem.W.Frag} {mg : Str → Option Value} {base : Heap} {fd : FuncData}
end
end L2.K19
set_option Elab.async false
set_option linter.all false
set_option maxRecDepth 100000
set_option maxHeartbeats 4000000
/-! table[place], question[place]. -/
namespace L2.K19
open PySem PySem.Spec PyProof.Rows L2.RV
abbrev Pl : Type := Str × Nat
/-- what a dict by places holds -/
def plD (ws : List (Pl × Int)) : List (List L2.Key × V) := ws.map fun z => (plK z.1, V.int z.2)
def atD (ws : List (Pl × Int)) (p : Pl) : Int := ((ws.find? fun z => decide (z.1 = p)).map (·.2)).getD 0
theorem plK_inj {p q : Pl} : plK p = plK q ↔ p = q := by
  constructor
  · intro h
    unfold plK at h
    simp only [List.cons.injEq, Sum.inr.injEq, Sum.inl.injEq, and_true] at h
    exact Prod.ext h.1 (by omega)
  · rintro rfl
    rfl
theorem valV_plD {p : Pl} : ∀ ws : List (Pl × Int), (valV (plD ws) (plK p)).getD (V.int 0) = V.int (atD ws p)
  | [] => rfl
  | z :: ws => by
    have r := valV_plD (p := p) ws
    unfold plD atD at r ⊢
    by_cases e : z.1 = p
    · rw [List.map_cons, valV_pos (by rw [e]), List.find?_cons_of_pos (by simpa using e)]
      rfl
    · rw [List.map_cons, valV_neg (fun h => e (plK_inj.mp h)), List.find?_cons_of_neg (by simpa using e)]
      exact r
/-- an instance of x with the shape at s, and its dict by places under the name f -/
def Held (K : PySem.W.Frag) (H : Hp) (x f : Str) (a s : Addr) (ws : List (Pl × Int)) : Prop := ∃ dx fs t, H a = some (.ins (He.ga K x) dx fs) ∧ fs.lookup ("shape" : Str) = some (V.ref s) ∧ fs.lookup f = some (V.ref t) ∧ Rd H t (.dT (plD ws))
/-- o[place], the place in o's shape -/
def spAt (K : PySem.W.Frag) (x f : Str) : Sp := fun vs H Q _ => ∃ a b s ks d ws p, vs = [.ref a, .ref b] ∧ Held K H x f a s ws ∧ ShapeAt K H s ks d ∧ PlAt H b p ∧ p ∈ placesOf ks d ∧ Q (.int (atD ws p)) H
section
variable {P : Program} {w : World} {K : PySem.W.Frag} {mg : Str → Option Value} {base : Heap} {fd : FuncData}
theorem ok_Question_at (T : Top w K mg) (S : MethS CX0 P w K mg base (He.ga K "Shape") "__contains__" 3 ["self", "x"] (spShapeIn K)) (R_BadPlace : RzX P w K mg base "BadPlace" (ca K 7) ["value"]) {f : Addr} (F : FunD K "__getitem__" "Question.__getitem__" (defArgs s_Question_getitem) (defBody s_Question_getitem) (defScope s_Question_getitem) [] [] f fd) : FnOk P w K mg base (L2.CX P w) 4 f fd ["self", "at"] (spAt K "Question" "weights") := by
  refine F.ok sc_Question_getitem (fun vs H Q E h => ?_) (fun cdv A outer s H vs Q E hr h => ?_)
  · obtain ⟨a, b, s, ks, d, ws, p, rfl, _⟩ := h
    rfl
  · obtain ⟨a, b, s, ks, d, ws, p, rfl, o, s1, pb, hp, k⟩ := h
    have hu := hr.units
    refine ⟨_, (pss_cons (ps_if (pt_cmpR (op_notInO S (hr.mono (by decide)) pass_CX0) (pv 1) (pe_fld (pv 0) rfl) rfl) (pss_one (ps_rz R_BadPlace rfl (hr.mono (by decide)) (takes_of rfl rfl rfl rfl) rfl (pa_cons (pv 1) pa_nil))) pss_nil)
      (pss_one (ps_ret (pe_dget2 (Nat.lt_of_le_of_lt (Nat.add_le_add_left (by decide) _) hu) (pe_fld (pv 0) rfl) (pv 1) pe_int ⟨rfl, rfl, rfl, rfl⟩)))), ?_⟩
    obtain ⟨dx, fs, t, e1, e2, e3, e4⟩ := o
    obtain ⟨dy, gs, e5⟩ := s1.ins
    refine ⟨_, rfl, _, rfl, a, _, dx, _, _, rfl, e1, T.k_Question, T.a_Question_shape, e2, s, dy, gs, rfl, e5, s, b, ks, d, p, rfl, s1, pb, _, rfl, _, rfl, ?_⟩
    rw [decide_eq_true hp]
    refine ⟨_, rfl, a, _, dx, _, _, rfl, e1, T.k_Question, T.a_Question_weights, e3, t, rfl, .inr ⟨_, e4⟩, _, rfl, _, (.inr ⟨_, plK p, b, e4, rfl, pb, rfl⟩), ?_⟩
    rw [valV_plD]
    exact k
end
end L2.K19
set_option Elab.async false
set_option linter.all false
set_option maxRecDepth 100000
set_option maxHeartbeats 4000000
/-! Loops over a list or a tuple, plainly and by enumerate. -/
namespace PySem
open Sem (wp)
open AutoSeq1 (wpAny_loadPart')
theorem meets_enumerate_newT (t : Addr) (items : Array Value) (o : Obj) (n : Nat) (hc : o.cls = .type "tuple") (hd : o.data = .seq items n) :
    Meets (Builtin.«enumerate.__new__» ⟨[.type "enumerate", .ref t], []⟩) (fun _ R s => s.heap.get? t = some o ∧
      R (.ok (.ret (.ref (s.heap.push { cls := .type "tuple_iterator", data := .fields #[.ref t, .int 0 0] }).objs.size)))
        { s with heap := (s.heap.push { cls := .type "tuple_iterator", data := .fields #[.ref t, .int 0 0] }).push { cls := .type "enumerate", data := .fields #[.none, .bool false, .ref s.heap.objs.size, rawInt 0, .none, .none] } }) :=
  .of_wp fun prog w A R s h => by
    obtain ⟨hp, g, d, tk, os⟩ := s; obtain ⟨hl, h⟩ := h
    have hsub := sub_enumerate
    have hL : Heap.IsTuple (Shared.heap ⟨hp, g, d, tk, os⟩) t items := ⟨_, hl, hc, n, hd⟩
    wp_walk using wpAny_loadPart' hl
    refine wpAny_stack_any fun st => wpAny_pure ?_
    split
    · rename_i c _ _ _ _ _
      cases (c == Value.type "enumerate")
      · wp_walk using wpAny_loadPart' hl, wpAny_pyIter_tuple hL
        exact ⟨_, rfl, h⟩
      · wp_walk using wpAny_loadPart' hl, wpAny_pyIter_tuple hL
        exact ⟨_, rfl, h⟩
    · wp_walk using wpAny_loadPart' hl, wpAny_pyIter_tuple hL
      exact ⟨_, rfl, h⟩
section
variable {prog : Program} {w : World} {A : Around} {E : Value → Shared → Prop} {s : Shared}
theorem call_enumerate_tuple {t : Addr} {items : Array Value} {Q : Value → Shared → Prop} (hL : s.heap.IsTuple t items)
    (h : ∀ h', IsEnum h' (s.heap.objs.size + 1) s.heap.objs.size 0 .none → h'.IsTupleIter s.heap.objs.size t 0 → h'.objs.size = s.heap.objs.size + 2 →
      (∀ b o, s.heap.get? b = some o → h'.get? b = some o) → Q (.ref (s.heap.objs.size + 1)) { s with heap := h' }) :
    wpAny (model prog w) A (call (.type "enumerate") [.ref t]) Q E s := by
  obtain ⟨ob, hl, hc, n, hd⟩ := hL
  refine callType_new F.called_enumerate (by decide) (F.typeCall_enumerate_1 _) (F.newCall_enumerate_1 _) (fun obj => F.args_object_init_2 obj _) F.entry_enumerate_new
    (meets_enumerate_newT t items ob n hc hd) ⟨hl, ?_⟩
  have hz : (s.heap.push { cls := .type "tuple_iterator", data := .fields #[.ref t, .int 0 0] }).objs.size = s.heap.objs.size + 1 := Heap.size_push ..
  show _ ∧ _
  rw [hz]
  have he : IsEnum ((s.heap.push { cls := .type "tuple_iterator", data := .fields #[.ref t, .int 0 0] }).push
      { cls := .type "enumerate", data := .fields #[.none, .bool false, .ref s.heap.objs.size, rawInt 0, .none, .none] }) (s.heap.objs.size + 1) s.heap.objs.size 0 .none := by
    have := Heap.get?_push_size (s.heap.push { cls := .type "tuple_iterator", data := .fields #[.ref t, .int 0 0] })
      (o := { cls := .type "enumerate", data := .fields #[.none, .bool false, .ref s.heap.objs.size, rawInt 0, .none, .none] }) rfl
    rw [hz] at this; exact this
  refine ⟨⟨_, he, rfl⟩, h _ he ⟨_, Heap.get?_push_of_some _ (Heap.get?_push_size _ rfl), rfl, rfl⟩ (by rw [Heap.size_push, hz]) fun b o x => Heap.get?_push_of_some _ (Heap.get?_push_of_some _ x)⟩
end
end PySem

namespace L2.RV
open PySem PySem.Spec PyProof.Rows
/-- the tuple at a, each item in a new pair with its index -/
def Itet (K : PySem.W.Frag) (a : Addr) : It :=
  ⟨fun i H => ∃ (xs : List V) (x : V), SqT K H a xs ∧ xs[i]? = some x, fun i H v H' => ∃ T x, v = .ref T ∧ H T = none ∧ H' = upd H T (.tup [.int (i : Nat), x]) ∧ ∀ xs, SqT K H a xs → xs[i]? = some x, fun i H => ∃ xs : List V, SqT K H a xs ∧ xs.length = i⟩
theorem turn_enumT {P : Program} {w : World} {K : PySem.W.Frag} {elts : List Expr} {kk : Nat} {tpos : Pos} (a e it : Addr) :
    Turn P w K (.Tuple elts kk tpos) (Itet K a) [e, it] e (fun i h => (∃ old, IsEnum h e it ((i : Nat) : Int) old) ∧ h.IsTupleIter it a i ∧ e ≠ it) where
  mem := by simp
  obj := fun i h st b hb => by
    obtain ⟨⟨old, he⟩, ⟨o, ho, hc, hd⟩, _⟩ := st
    have e' : b = e ∨ b = it := by simpa using hb
    rcases e' with z | z
    · rw [z]; exact ⟨_, he, fun v q => nomatch q⟩
    · rw [z]; exact ⟨o, ho, fun v q => by rw [hd] at q; cases q⟩
  keep := fun i h h' st k => let ⟨⟨old, he⟩, hi, hne⟩ := st; ⟨⟨old, k e (by simp) _ he⟩, hi.at fun o q => k it (by simp) o q, hne⟩
  item := by
    intro X hP hw hK hc i pins s σ H E I hf st hg
    subst hP hw hK
    obtain ⟨⟨old, he⟩, hit, hne⟩ := st
    obtain ⟨xs, x, hq, hx⟩ := hg
    obtain ⟨its, rv, p, hz⟩ := I.tuple hq
    obtain ⟨u, hu, ru⟩ := rv.get hx
    have hel : e < s.heap.objs.size := Heap.lt_size he
    have hil : it < s.heap.objs.size := by obtain ⟨_, q, _⟩ := hit; exact Heap.lt_size q
    have hT : s.heap.IsTuple a its.toArray := p
    have hei : e ≠ a := fun z => by
      obtain ⟨o, ho, c, _⟩ := hT
      have he' : s.heap.get? e = some _ := he
      rw [z, ho] at he'
      cases he'
      injection c with c
      exact absurd c (by decide)
    have hai : a ≠ it := fun z => by
      obtain ⟨o, ho, c, _⟩ := hT
      obtain ⟨o', ho', c', _⟩ := hit
      rw [z, ho'] at ho
      cases ho
      rw [c'] at c
      injection c with c
      exact absurd c (by decide)
    have D := Draws.tuple (prog := X.prog) (w := X.w) (A := X.A.in1) (I.ok.hd hc) it a hai its.toArray
    have lt : i < its.toArray.size := by
      rcases Nat.lt_or_ge i its.toArray.size with z | z
      · exact z
      · have : its[i]? = none := List.getElem?_eq_none (by simpa using z)
        rw [this] at hu
        cases hu
    refine wpAny_pyNext_enum_itemD D he ⟨hit, hT⟩ lt hne (by simp [hne, hei]) fun v h' tk hv ho hst hT' hsz hk => ?_
    have ev : v = u := by
      have z : its.toArray[i]? = some v := hv
      rw [List.getElem?_toArray] at z
      exact Option.some.inj (z.symm.trans hu)
    subst ev
    refine ⟨_, rfl, wpAny_letOwnedTupleGo_enum (s := { s with heap := h', toks := tk + 1 }) ho fun h'' he' sb => ?_⟩
    have hT2 : h''.get? s.heap.objs.size = some { cls := .type "tuple", data := .seq #[.int i tk, v] } := (sb.2 _ (Nat.ne_of_gt hel)).trans hT'
    have new : ObjOk X.prog X.w (upd H s.heap.objs.size (.tup [.int (i : Nat), x])) h'' s.heap.objs.size (.tup [.int (i : Nat), x]) :=
      ⟨by show 2 ≤ sizeLine; decide, [.int i tk, v], .cons ⟨_, rfl⟩ (.cons ru .nil), ⟨_, hT2, rfl, _, rfl⟩⟩
    have I1 : Inv X pins σ (upd H s.heap.objs.size (.tup [.int (i : Nat), x])) { s with heap := h'', toks := tk + 1 } :=
      I.turnedNew (ch := [e, it]) (fun b ob hb q => (sb.2 b (fun z => hb (by simp [z]))).trans (hk b ob (fun z => hb (by simp [z])) (fun z => hb (by simp [z])) q)) hf (Nat.le_refl _) new
    refine ⟨.ref s.heap.objs.size, _, I1, rfl, ⟨_, x, rfl, I.hok.fresh (Nat.le_refl _), rfl, fun ys hy => by rw [I.tuple_inj hy hq]; exact hx⟩, ⟨⟨v, ?_⟩, hst.1.at fun o q => (sb.2 it (Ne.symm hne)).trans q, hne⟩, fun b hb => ?_⟩
    · have e1 : ((i + 1 : Nat) : Int) = (i : Int) + 1 := by omega
      rw [e1]; exact he'
    · have hb' : b < s.heap.objs.size := by
        have e' : b = e ∨ b = it := by simpa using hb
        rcases e' with z | z
        · rw [z]; exact hel
        · rw [z]; exact hil
      rw [upd_ne (Nat.ne_of_lt hb')]
      exact (hf b hb).1
  done := by
    intro X hP hw hK hc i pins s σ H E I hf st hg
    subst hP hw hK
    obtain ⟨⟨old, he⟩, hit, hne⟩ := st
    obtain ⟨xs, hq, hx⟩ := hg
    obtain ⟨its, rv, p, hz⟩ := I.tuple hq
    obtain ⟨f0, f1, f2, f3, f4, f5⟩ := hf it (by simp)
    have hl := rv.length
    have hT : s.heap.IsTuple a its.toArray := p
    have hai : a ≠ it := fun z => by
      obtain ⟨o, ho, c, _⟩ := hT
      obtain ⟨o', ho', c', _⟩ := hit
      rw [z, ho'] at ho
      cases ho
      rw [c'] at c
      injection c with c
      exact absurd c (by decide)
    have D := Draws.tuple (prog := X.prog) (w := X.w) (A := X.A.in1) (I.ok.hd hc) it a hai its.toArray
    have en : its.toArray.size = i := by
      rw [List.size_toArray]
      omega
    refine wpAny_pyNext_enum_endD D he ?_ fun h' eb => ⟨rfl, I.turned (t' := s.toks) (fun b o hb q => eb b o hb q) f0 f1 f3 f4 f5⟩
    rw [en]
    exact ⟨hit, hT⟩
  self := fun A i s Q E st h => let ⟨⟨_, he⟩, _⟩ := st; wpAny_pyIter_enum he h
/-- a list or a tuple stands at a -/
def Sq (K : PySem.W.Frag) (H : Hp) (a : Addr) (xs : List V) : Prop := SqT K H a xs ∨ SqL K H a xs
/-- it stands there still -/
def SqKeep (K : PySem.W.Frag) (a : Addr) (xs : List V) (H1 H : Hp) : Prop := (SqT K H1 a xs → SqT K H a xs) ∧ (SqL K H1 a xs → SqL K H a xs)
theorem Rd.keep {H H' : Hp} {a : Addr} {u : HO} (r : Rd H a u) (s : ∀ o, H a = some o → H' a = some o) : Rd H' a u := by
  rcases r with e | ⟨o, e⟩
  · exact .inl (s _ e)
  · exact .inr ⟨o, s _ e⟩
theorem SqKeep.of_eq {K : PySem.W.Frag} {a : Addr} {xs : List V} {H1 H : Hp} (s : ∀ o, H1 a = some o → H a = some o) : SqKeep K a xs H1 H := by
  refine ⟨fun z => ?_, fun z => ?_⟩
  · rcases z with z | z
    · exact .inl (Rd.keep z s)
    · exact .inr z
  · rcases z with z | z
    · exact .inl (Rd.keep z s)
    · exact .inr z
theorem SqKeep.of_same {K : PySem.W.Frag} {a : Addr} {xs : List V} {H1 H : Hp} (s : Same H1 H) : SqKeep K a xs H1 H := .of_eq fun o e => s a o e
theorem Sq.keep {K : PySem.W.Frag} {a : Addr} {xs : List V} {H1 H : Hp} (q : Sq K H1 a xs) (s : SqKeep K a xs H1 H) : Sq K H a xs := q.imp s.1 s.2
/-- over a list or a tuple -/
def iSq (K : PySem.W.Frag) (te : TE) : TI := fun σ H R => te σ H fun x H1 => ∃ a xs, x = .ref a ∧ Sq K H1 a xs ∧ ∀ J, Walk J xs.length (SqKeep K a xs H1) (YAt xs) → R J H1
/-- over enumerate of a list or a tuple -/
def iEnumSq (K : PySem.W.Frag) (ta : TA) : TI := fun σ H R => ta σ H fun vs H1 => ∃ a xs, vs = [.ref a] ∧ Sq K H1 a xs ∧ ∀ J, Walk J xs.length (SqKeep K a xs H1) (YPair (fun i => some (.int (i : Nat))) (fun i => xs[i]?)) → R J H1
section
variable {X : Cx} {tg e : Expr} {te : TE} {ta : TA}
theorem pi_sq (he : PE X e te) : PI X tg e (iSq X.K te) := by
  refine ⟨fun pins s σ H R I h => ?_⟩
  refine thn (he.run pins s σ H _ I h) fun v s1 ⟨x, H1, I1, r1, a, xs, ex, hq, q⟩ => ?_
  subst ex
  cases r1
  rcases hq with hq | hq
  · obtain ⟨its, rv, p, hz⟩ := I1.tuple hq
    refine wpAny_pyIter_tuple (show s1.heap.IsTuple a its.toArray from p) ?_
    refine ⟨s1.heap.objs.size, [s1.heap.objs.size], _, _, H1, rfl, I1.kept (t' := s1.toks) fun b o e => Heap.get?_push_of_some _ e, turn_tuple a _, ⟨_, Heap.get?_push_size _ rfl, rfl, rfl⟩, fun b hb => ?_, q _ (walk_tup.mono (fun H k => k.1 hq) fun _ _ _ _ _ _ y => y)⟩
    have e : b = s1.heap.objs.size := by simpa using hb
    subst e
    exact I1.fpOk (Nat.le_refl _) (I1.hok.fresh (Nat.le_refl _))
  · obtain ⟨its, rv, p, hz⟩ := I1.list hq
    refine wpAny_pyIter_list p.isList ?_
    refine ⟨s1.heap.objs.size, [s1.heap.objs.size], _, _, H1, rfl, I1.kept (t' := s1.toks) fun b o e => Heap.get?_push_of_some _ e, turn_list a _, ⟨_, Heap.get?_push_size _ rfl, rfl, rfl⟩, fun b hb => ?_, q _ (Walk.mono L2.walk_list (fun H k => k.2 hq) fun _ _ _ _ _ _ y => y)⟩
    have e : b = s1.heap.objs.size := by simpa using hb
    subst e
    exact I1.fpOk (Nat.le_refl _) (I1.hok.fresh (Nat.le_refl _))
theorem walk_enumT {K : PySem.W.Frag} {a : Addr} {xs : List V} : Walk (Itet K a) xs.length (fun H => SqT K H a xs) (YPair (fun i => some (.int (i : Nat))) (fun i => xs[i]?)) := by
  refine ⟨fun i _ hi q => ⟨xs, xs[i], q, by simp [hi]⟩, fun _ q => ⟨xs, q, rfl⟩, fun i H v H' _ q y => ?_⟩
  obtain ⟨T, x, h1, h2, h3, h4⟩ := y
  exact ⟨T, .int (i : Nat), x, h1, h2, h3, rfl, h4 xs q⟩
theorem pi_enumSq {p pos tpos : Pos} {elts : List Expr} {kk : Nat} (hg : Gl X "enumerate") (hm : X.mg "enumerate" = none) (ha : PA X [e] ta) (hs : starEach [e] X.env = [(false, eval e X.env)] := by rfl) :
    PI X (.Tuple elts kk tpos) (.Call (.Name "enumerate" p) [e] [] pos) (iEnumSq X.K ta) := by
  refine ⟨fun pins s σ H R I h => ?_⟩
  refine Call_ (ld_blt I hg hm boot_enumerate (PyProof.Rows.callWith_type1 (thn (ha.run pos pins s σ H _ I h) fun us s1 ⟨vs, H1, I1, r1, q1⟩ => ?_) hs rfl))
  obtain ⟨a, xs, ex, hq, q⟩ := q1
  subst ex
  cases r1 with
  | cons r rr =>
    cases rr
    cases r
    have fin : ∀ b, b ∈ [s1.heap.objs.size + 1, s1.heap.objs.size] → FpOk X pins H1 b := fun b hb => by
      have e' : b = s1.heap.objs.size + 1 ∨ b = s1.heap.objs.size := by simpa using hb
      have hle : s1.heap.objs.size ≤ b := by
        rcases e' with z | z
        · rw [z]; exact Nat.le_add_right _ _
        · rw [z]; exact Nat.le_refl _
      exact I1.fpOk hle (I1.hok.fresh hle)
    rcases hq with hq | hq
    · obtain ⟨its, rv, p', hz⟩ := I1.tuple hq
      refine call_enumerate_tuple (show s1.heap.IsTuple a its.toArray from p') fun h' he hit hsz hk => wpAny_pyIter_enum he ?_
      have I2 : Inv X pins σ H1 { s1 with heap := h' } := I1.kept (t' := s1.toks) hk
      exact ⟨s1.heap.objs.size + 1, [s1.heap.objs.size + 1, s1.heap.objs.size], _, _, H1, rfl, I2, turn_enumT a (s1.heap.objs.size + 1) s1.heap.objs.size, ⟨⟨.none, he⟩, hit, Nat.succ_ne_self _⟩, fin, q _ (walk_enumT.mono (fun H k => k.1 hq) fun _ _ _ _ _ _ y => y)⟩
    · obtain ⟨its, rv, p', hz⟩ := I1.list hq
      refine call_enumerate_list p'.isList fun h' he hit hsz hk => wpAny_pyIter_enum he ?_
      have I2 : Inv X pins σ H1 { s1 with heap := h' } := I1.kept (t' := s1.toks) hk
      exact ⟨s1.heap.objs.size + 1, [s1.heap.objs.size + 1, s1.heap.objs.size], _, _, H1, rfl, I2, turn_enum a (s1.heap.objs.size + 1) s1.heap.objs.size, ⟨⟨.none, he⟩, hit, Nat.succ_ne_self _⟩, fin, q _ (walk_enum.mono (fun H k => k.2 hq) fun _ _ _ _ _ _ y => y)⟩
end
end L2.RV
set_option Elab.async false
set_option linter.all false
set_option maxRecDepth 100000
set_option maxHeartbeats 4000000
/-! Places that are a shape's. -/
namespace L2.K19
open PySem PySem.Spec PyProof.Rows L2.RV
/-- each of the tuples at bs is a place of the shape -/
def AllPl (H : Hp) (ks : List Str) (d : Nat) (bs : List Addr) : Prop := ∀ b ∈ bs, ∃ p, p ∈ placesOf ks d ∧ PlAt H b p
/-- check_places(shape, places), all of them the shape's -/
def spPlaces (K : PySem.W.Frag) : Sp := fun vs H Q _ => ∃ a t ks d bs, vs = [.ref a, .ref t] ∧ ShapeAt K H a ks d ∧ Sq K H t (bs.map V.ref) ∧ AllPl H ks d bs ∧ Q .non H
section
variable {P : Program} {w : World} {K : PySem.W.Frag} {mg : Str → Option Value} {base : Heap} {fd : FuncData}
theorem ok_check_places (T : Top w K mg) (S : MethS CX0 P w K mg base (He.ga K "Shape") "__contains__" 3 ["self", "x"] (spShapeIn K)) (R_BadPlace : RzX P w K mg base "BadPlace" (ca K 7) ["value"]) (F : Fn K "check_places" s_check_places fd) : FnOk P w K mg base (L2.CX P w) 4 (He.ga K "check_places") fd ["shape", "places"] (spPlaces K) := by
  refine F.ok sc_check_places (fun vs H Q E h => ?_) (fun cdv A outer s H vs Q E hr h => ?_)
  · obtain ⟨a, t, ks, d, bs, rfl, _⟩ := h
    rfl
  · obtain ⟨a, t, ks, d, bs, rfl, s1, sq, all, k⟩ := h
    refine ⟨_, (pss_one (ps_for (passes_of rfl) rfl (pi_sq (pv 1)) (pg_name (i := 2) sc_check_places.nd rfl (by first | exact Or.inl rfl | exact Or.inr rfl)) (pss_one (ps_if (pt_cmpR (op_notInO S (hr.mono (by decide)) pass_CX0) (pv 2) (pv 0) rfl) (pss_one (ps_rz R_BadPlace rfl (hr.mono (by decide)) (takes_of rfl rfl rfl rfl) rfl (pa_cons (pv 2) pa_nil))) pss_nil)))), ?_⟩
    refine ⟨_, rfl, t, _, rfl, sq, fun J wk => ?_⟩
    refine for_it wk (fun n σ' H' => (∃ c, σ' = [some (.ref a), some (.ref t), c]) ∧ H' = H) ⟨⟨_, rfl⟩, rfl⟩ (fun n σ' H' _ q => by rw [q.2]; exact ⟨id, id⟩) (fun n z σ' H' H'' hn q yy => ?_) (fun σ' H' q => ?_)
    · obtain ⟨⟨c, rfl⟩, rfl⟩ := q
      obtain ⟨rfl, hz⟩ := yy
      obtain ⟨b, hb, rfl⟩ := List.mem_map.mp (List.mem_of_getElem? hz)
      obtain ⟨p, hp, pb⟩ := all b hb
      obtain ⟨dy, gs, e5⟩ := s1.ins
      refine ⟨_, rfl, _, rfl, a, dy, gs, rfl, e5, a, b, ks, d, p, rfl, s1, pb, _, rfl, _, rfl, ?_⟩
      rw [decide_eq_true hp]
      exact ⟨⟨_, rfl⟩, rfl⟩
    · obtain ⟨_, rfl⟩ := q
      exact k
end
end L2.K19
set_option Elab.async false
set_option linter.all false
set_option maxRecDepth 100000
set_option maxHeartbeats 4000000
/-! Dict comprehensions whose keys are tuples. -/
namespace L2.RV
open PySem PySem.Spec PyProof.Rows
section
variable {X : Cx}
/-- what a comprehension does with a pair, by DPut -/
theorem d_compSet {pins : List (Addr × Obj)} {σ : L2.St} {H H' : Hp} {s : Shared} {E : Value → Shared → Prop} {D : Addr} {y z : V} {u r : Value} {Q : Unit → Shared → Prop} (hu : X.A.units < cLine) (I : Inv X pins σ H s)
    (g : DPut H D y z H') (ry : RelV y u) (rz : RelV z r) (h : ∀ s', Inv X pins σ H' s' → Q () s') : wpAny (model X.prog X.w) X.A (dictSet D u r) Q E s := by
  rcases g with ⟨kvs, k, e, rfl, l, rfl⟩ | ⟨kvs, k, b, e, rfl, eb, l, rfl⟩
  · exact d_dictSet I e l ry rz h
  · cases (show u = Value.ref b from ry)
    obtain ⟨sz, nm, xs, rel, dd⟩ := dt_of I.hok e
    have lx : xs.length ≤ sizeLine := Nat.le_trans (Nat.le_of_eq (Paired.length rel).symm) sz
    have lp : (putK kvs k z).length ≤ sizeLine := Nat.le_trans (length_putK kvs k z) l
    refine wpAny_dictSet_heap (hsz := lx) (knd := tupleKind (mixKind X.prog X.w)) hu (key_of I.hok eb) dd fun h2 d2 sb => h _ ?_
    obtain ⟨o2, es, ep, g1, g2, g3, g4, _, g5⟩ := d2
    refine d_write I (by rw [e]; exact True.intro) sb ⟨o2, g1⟩ ⟨lp, nm, _, KT.keeps (rel.put k eb rz) (fun c ys ec => ?_), o2, es, ep, g1, g2, g3, g4, g5⟩
    exact (upd_ne (ne_of ec e (fun z => nomatch z))).trans ec
/-- {k: v for target in iter if ..}, keys by tuples: D the new dict -/
def tDcT (wi : TI) (g : TG) (tt : TT) (tk tv : TE) (vs : List Nat) : TE := fun σ H Q => wi σ H fun J H1 => ∀ D, H1 D = none → ∃ W : Nat → Nat → Hp → Prop, (∃ m, W 0 m (upd H1 D (.dT []))) ∧ ∀ i m H, W i m H →
  (J.stop i H ∧ Q (.ref D) H) ∨ (J.go i H ∧ ∃ N : Hp → Prop, (∀ H', N H' → ∃ m', m' < m ∧ W (i + 1) m' H') ∧ ∀ x H', J.yld i H x H' → g x (wipe σ vs) H' fun σ2 H2 => wipe σ2 vs = wipe σ vs ∧ tt σ2 H2 fun b H3 =>
    if b = true then tk σ2 H3 fun y H4 => tv σ2 H4 fun z H5 => ∃ H6, DPut H5 D y z H6 ∧ N H6 else N H3)
theorem dcT_core {pins : List (Addr × Obj)} {s : Shared} {σ : L2.St} {H : Hp} {Q : VK} {kx vx tg iter : Expr} {ifs : List Expr} {scope : Scope} {own : List (Str × Nat)} {pos pos' : Pos} {wi : TI} {g : TG} {tt : TT} {tk tv : TE} {use : Option (Value → Sem Unit)} {Qf : Value → Shared → Prop}
    (hu : X.A.units < cLine) (calm : X.calm = true) (nd : X.N.Nodup) (I : Inv X pins σ H s) (it0 : PI X tg iter wi) (ok : BlkOk X.N X.env.scope scope own)
    (pg0 : ∀ (s : Shared) (H : Hp) (C : Addr) (cl : List (Str × Addr)) (fp : List Addr), PG (X.blk s H scope (compEnvC scope cl C X.env) fp) tg g)
    (pt0 : ∀ (s : Shared) (H : Hp) (C : Addr) (cl : List (Str × Addr)) (fp : List Addr), PTs (X.blk s H scope (compEnvC scope cl C X.env) fp) ifs tt)
    (pk0 : ∀ (s : Shared) (H : Hp) (C : Addr) (cl : List (Str × Addr)) (fp : List Addr), PE (X.blk s H scope (compEnvC scope cl C X.env) fp) kx tk)
    (pv0 : ∀ (s : Shared) (H : Hp) (C : Addr) (cl : List (Str × Addr)) (fp : List Addr), PE (X.blk s H scope (compEnvC scope cl C X.env) fp) vx tv)
    (fs : ∀ x, foldedSetIterable iter X.env x = pure x)
    (h : tDcT wi g tt tk tv (own.map (·.2)) σ H Q)
    (back : ∀ D C s' m H', Inv X pins σ H' s' → Q (.ref D) H' → s'.heap.Ns C m → FpOk X pins H' C → compPost (model X.prog X.w) X.A X.xe use Qf (.ref D) C (.ok .next) s') :
    wpAny (model X.prog X.w) X.A (comprehension (.DictComp kx vx [⟨tg, iter, ifs, 0⟩] scope pos) scope X.env pos' newDict false (eval iter X.env) use) Qf X.xe s := by
  have free : ∀ y ∈ scope.names, y.2 = .free → ∃ c, X.env.cells.lookup y.1 = some c := fun y hy e => (ok.free y hy e).elim (fun k => I.ok.has _ (.inl k)) (fun k => I.ok.has _ (.inr k))
  refine wpAny_comprehension_free (use := use) rfl fs (closure_ok free) ok.kind (fun y hy e => by rw [ok.uniq y hy, e]) ?_
  refine thn (it0.run pins s σ H _ I h) fun xv sA hx => ?_
  refine thn hx fun itv sB hB => ?_
  obtain ⟨it, fp, tn, J, H2, rfl, I2, T, stB, fB, q⟩ := hB
  refine (wpAny_newObj_type (newEnv_comp ?_))
  have Dn : H2 sB.heap.objs.size = none := I2.hok.fresh (Nat.le_refl _)
  obtain ⟨W, ⟨m0, w0⟩, turn⟩ := q _ Dn
  generalize eD : sB.heap.objs.size = D at Dn w0 turn
  generalize eC : ({ sB with heap := sB.heap.push { cls := .type "dict", data := .dict #[] } } : Shared) = sC
  have hC : sC.heap = sB.heap.push { cls := .type "dict", data := .dict #[] } := by rw [← eC]
  have kC : ∀ b o, sB.heap.get? b = some o → sC.heap.get? b = some o := fun b o e => by rw [hC]; exact Heap.get?_push_of_some _ e
  have I3 : Inv X pins σ (upd H2 D (.dT [])) sC := by
    have z := I2.laid (t' := sB.toks) (h' := sB.heap.push { cls := .type "dict", data := .dict #[] }) (a := D) (o := .dT []) (fun b o e => Heap.get?_push_of_some _ e) (Nat.le_of_eq eD) (by rw [← eD]; exact dt_empty sB.heap I2.big)
    rw [← eC]
    exact z
  have low : ∀ b ∈ fp, b < sB.heap.objs.size := fun b hb => let ⟨o, e, _⟩ := T.obj _ _ stB b hb; Heap.lt_size e
  have fC : ∀ b ∈ fp, FpOk X pins (upd H2 D (.dT [])) b ∧ b < sC.heap.objs.size := fun b hb => by
    have lt := low b hb
    have ne : b ≠ D := by rw [← eD]; exact Nat.ne_of_lt lt
    refine ⟨⟨(upd_ne ne).trans (fB b hb).1, (fB b hb).2⟩, ?_⟩
    rw [hC, Heap.size_push]
    exact Nat.lt_succ_of_lt lt
  have stC : tn 0 sC.heap := T.keep _ _ _ stB fun b _ o e => kC b o e
  have I4 := block_start I3 ok nd fC
  generalize ecl : cellsFrom (sC.heap.objs.size + 1) scope.names (cloFrom X.env.cells scope.names []) = cl at I4
  have pg := pg0 sC (upd H2 D (.dT [])) sC.heap.objs.size cl fp
  have pt := pt0 sC (upd H2 D (.dT [])) sC.heap.objs.size cl fp
  have pk := pk0 sC (upd H2 D (.dT [])) sC.heap.objs.size cl fp
  have pv := pv0 sC (upd H2 D (.dT [])) sC.heap.objs.size cl fp
  subst ecl
  show codeAny _ _ (.compStart (.DictComp kx vx [⟨tg, iter, ifs, 0⟩] scope pos) 0 (.ref it) (.ref D) (compEnvC scope (cellsFrom (sC.heap.objs.size + 1) scope.names (cloFrom X.env.cells scope.names [])) sC.heap.objs.size X.env)) (compPost (model X.prog X.w) X.A X.xe use Qf (.ref D) sC.heap.objs.size) { sC with heap := pushCells (sC.heap.push { cls := .type "dict", data := .dict #[] }) scope.names }
  have nfp : ∀ b ∈ fp, (upd H2 D (.dT [])) b = none := fun b hb => (fC b hb).1.1
  generalize ece : compEnvC scope (cellsFrom (sC.heap.objs.size + 1) scope.names (cloFrom X.env.cells scope.names [])) sC.heap.objs.size X.env = ce at I4 pg pt pk pv ⊢
  have cL : ce.locals = sC.heap.objs.size := by rw [← ece]; rfl
  generalize eH3 : upd H2 D (.dT []) = H3 at I3 I4 pg pt pk pv w0 nfp fC
  generalize eS4 : ({ sC with heap := pushCells (sC.heap.push { cls := .type "dict", data := .dict #[] }) scope.names } : Shared) = sD at I4 ⊢
  have stD : tn 0 sD.heap := T.keep _ _ _ stC fun b _ o e => by rw [← eS4]; exact pushCells_keeps _ _ _ _ (Heap.get?_push_of_some _ e)
  have stat : ∀ {σ' : L2.St} {H' : Hp} {s' : Shared}, Inv (X.blk sC H3 scope ce fp) [] σ' H' s' → (∀ b ∈ fp, H' b = none) → ∀ b ∈ fp, FpOk (X.blk sC H3 scope ce fp) [] H' b := by
    intro σ' H' s' I' hn b hb
    exact ⟨hn b hb, (I'.ok.exf b hb).1, I'.ok.exfs b hb, .inl hb, fun x c e => (I'.ok.exf b hb).2 x c e, fun p hp => absurd (show p ∈ ([] : List (Addr × Obj)) ++ [] from hp) (by simp)⟩
  have loop : codeAny (model X.prog X.w) X.A (.compLoop (.DictComp kx vx [⟨tg, iter, ifs, 0⟩] scope pos) 0 (.ref it) (.ref D) ce) (compPost (model X.prog X.w) X.A X.xe use Qf (.ref D) sC.heap.objs.size) sD := by
    refine compLoop_anyD (fun n s' => ∃ i H', Inv (X.blk sC H3 scope ce fp) [] (wipe σ (own.map (·.2))) H' s' ∧ tn i s'.heap ∧ (∀ b ∈ fp, H' b = none) ∧ W i n H') ?_ m0 ⟨0, H3, I4, stD, nfp, w0⟩
    intro n sE hE
    obtain ⟨i, H5, I5, stE, nE, wE⟩ := hE
    rcases turn i n H5 wE with ⟨stop, qq⟩ | ⟨go, N, hN, step⟩
    · refine thnF (T.done (X.blk sC H3 scope ce fp) rfl rfl rfl calm i [] sE _ H5 (fun _ _ => False) I5 (stat I5 nE) stE stop) fun r sF ⟨hr, I6⟩ => ?_
      subst hr
      have I7 : Inv X pins σ H5 sF := I3.call' (ch := fp) I6.os I6.base I6.hok I6.bare fun b hb => let z := (fC b hb).1.2; ⟨z.2.2.1, z.1, z.2.2.2.1, z.2.2.2.2⟩
      have nC : H5 sC.heap.objs.size = none := by rw [← cL]; exact I6.free
      obtain ⟨m, hn, _⟩ := I6.loc
      have hn' : sF.heap.Ns sC.heap.objs.size m := by rw [← cL]; exact hn
      exact back D sC.heap.objs.size sF m H5 I7 qq hn' (I3.fpOk (Nat.le_refl _) nC)
    · refine thnF (T.item (X.blk sC H3 scope ce fp) rfl rfl rfl calm i [] sE _ H5 (fun _ _ => False) I5 (stat I5 nE) stE go) fun r sF ⟨u, hr, hF⟩ => ?_
      subst hr
      refine thnF hF fun _ sG ⟨x, H7, I7, r7, y7, stG, nG⟩ => ?_
      refine thnF (pg.run _ sG _ H7 x u _ (I7.pinned (stat I7 nG) (T.obj _ _ stG)) r7 (step x H7 y7)) fun _ s8 ⟨σ8, H8, I8, hw8, q8⟩ => ?_
      refine thnF (pt.run _ s8 σ8 H8 _ I8 q8) fun b s9 ⟨H9, I9, q9⟩ => ?_
      have fin : ∀ {s' : Shared} {H' : Hp}, Inv (X.blk sC H3 scope ce fp) ([] ++ pinsAt fp sG.heap) σ8 H' s' → N H' → ∃ m, m < n ∧ ∃ i H', Inv (X.blk sC H3 scope ce fp) [] (wipe σ (own.map (·.2))) H' s' ∧ tn i s'.heap ∧ (∀ b ∈ fp, H' b = none) ∧ W i m H' := by
        intro s' H' I' nx
        obtain ⟨m', lt, w'⟩ := hN H' nx
        have pin : ∀ b ∈ fp, ∀ o, sG.heap.get? b = some o → s'.heap.get? b = some o ∧ H' b = none := fun b hb o e => by
          have z := I'.pin (b, o) (List.mem_append_right _ (List.mem_append_right _ (mem_pinsAt hb e)))
          exact ⟨z.1, z.2.1⟩
        refine ⟨m', lt, i + 1, H', (I'.unpinned (pins := [])).weak (by rw [← hw8, wipe_length]) (fun j v e => (wipe_some (hw8 ▸ e)).1), T.keep _ _ _ stG fun b hb o e => (pin b hb o e).1, fun b hb => ?_, w'⟩
        obtain ⟨o, e, _⟩ := T.obj _ _ stG b hb
        exact (pin b hb o e).2
      cases b with
      | false =>
        simp only [Bool.false_eq_true, if_false] at q9 ⊢
        exact fin I9 q9
      | true =>
        simp only [if_true] at q9 ⊢
        refine thnF (pk.run _ s9 σ8 H9 _ I9 q9) fun u1 s10 ⟨yk, H10, I10, r10, q10⟩ => ?_
        refine thnF (pv.run _ s10 σ8 H10 _ I10 q10) fun u2 s11 ⟨yv, H11, I11, r11, H12, put, nx⟩ => ?_
        exact d_compSet (X := X.blk sC H3 scope ce fp) hu I11 put r10 r11 fun s12 I12 => fin I12 nx
  exact codeAny_compStart_dict loop (T.self X.A 0 _ _ _ stD loop)
theorem pe_dcT {kx vx tg iter : Expr} {ifs : List Expr} {scope : Scope} {own : List (Str × Nat)} {pos : Pos} {wi : TI} {g : TG} {tt : TT} {tk tv : TE} (hu : X.A.units < cLine) (calm : X.calm = true) (nd : X.N.Nodup) (it0 : PI X tg iter wi) (ok : BlkOk X.N X.env.scope scope own)
    (pg0 : ∀ (s : Shared) (H : Hp) (C : Addr) (cl : List (Str × Addr)) (fp : List Addr), PG (X.blk s H scope (compEnvC scope cl C X.env) fp) tg g)
    (pt0 : ∀ (s : Shared) (H : Hp) (C : Addr) (cl : List (Str × Addr)) (fp : List Addr), PTs (X.blk s H scope (compEnvC scope cl C X.env) fp) ifs tt)
    (pk0 : ∀ (s : Shared) (H : Hp) (C : Addr) (cl : List (Str × Addr)) (fp : List Addr), PE (X.blk s H scope (compEnvC scope cl C X.env) fp) kx tk)
    (pv0 : ∀ (s : Shared) (H : Hp) (C : Addr) (cl : List (Str × Addr)) (fp : List Addr), PE (X.blk s H scope (compEnvC scope cl C X.env) fp) vx tv) (fs : ∀ x, foldedSetIterable iter X.env x = pure x := by intro _; rfl) :
    PE X (.DictComp kx vx [⟨tg, iter, ifs, 0⟩] scope pos) (tDcT wi g tt tk tv (own.map (·.2))) := by
  refine ⟨fun pins s σ H Q I h => ?_⟩
  rw [arm_eval_DictComp]
  refine dcT_core hu calm nd I it0 ok pg0 pt0 pk0 pv0 fs h fun D C s' m H' I' q hn f => ⟨m, hn, fun h'' sb => ⟨.ref D, H', ?_, rfl, q⟩⟩
  exact I'.turned (t' := s'.toks) (fun b o hb e => (sb.2 b hb).trans e) f.1 f.2.1 f.2.2.2.1 f.2.2.2.2.1 f.2.2.2.2.2
end
section
variable {J : It} {n : Nat} {G : Hp → Prop} {Y : Nat → Hp → V → Hp → Prop}
/-- one over a walk: Pv by the turn and the heap (the new dict at D within) -/
theorem dcT_it (w : Walk J n G Y) {g : TG} {tt : TT} {tk tv : TE} {vs : List Nat} {σ : L2.St} {H1 : Hp} {D : Addr} {Qd : Hp → Prop} (Pv : Nat → Hp → Prop) (h0 : Pv 0 (upd H1 D (.dT []))) (hG : ∀ i H, i ≤ n → Pv i H → G H)
    (hs : ∀ i x H H', i < n → Pv i H → Y i H x H' → g x (wipe σ vs) H' fun σ2 H2 => wipe σ2 vs = wipe σ vs ∧ tt σ2 H2 fun b H3 =>
      if b = true then tk σ2 H3 fun y H4 => tv σ2 H4 fun z H5 => ∃ H6, DPut H5 D y z H6 ∧ Pv (i + 1) H6 else Pv (i + 1) H3) (hd : ∀ H, Pv n H → Qd H) :
    ∃ W : Nat → Nat → Hp → Prop, (∃ m, W 0 m (upd H1 D (.dT []))) ∧ ∀ i m H, W i m H →
      (J.stop i H ∧ Qd H) ∨ (J.go i H ∧ ∃ N : Hp → Prop, (∀ H', N H' → ∃ m', m' < m ∧ W (i + 1) m' H') ∧ ∀ x H', J.yld i H x H' → g x (wipe σ vs) H' fun σ2 H2 => wipe σ2 vs = wipe σ vs ∧ tt σ2 H2 fun b H3 =>
        if b = true then tk σ2 H3 fun y H4 => tv σ2 H4 fun z H5 => ∃ H6, DPut H5 D y z H6 ∧ N H6 else N H3) := by
  refine ⟨fun i m H => m + i = n ∧ Pv i H, ⟨n, by omega, h0⟩, fun i m H q => ?_⟩
  obtain ⟨em, p⟩ := q
  have gg := hG i H (by omega) p
  by_cases lt : i < n
  · refine .inr ⟨w.goes i H lt gg, Pv (i + 1), fun H' p' => ⟨m - 1, by omega, by omega, p'⟩, fun x H' y => hs i x H H' lt p (w.yields i H x H' lt gg y)⟩
  · obtain rfl : i = n := by omega
    exact .inl ⟨w.stops H gg, hd H p⟩
end
end L2.RV
set_option Elab.async false
set_option linter.all false
set_option maxRecDepth 100000
set_option maxHeartbeats 4000000
/-! == and != of dicts whose keys are tuples, their values ints. -/
namespace L2.RV
open PySem PySem.Spec PyProof.Rows
section
variable {prog : Program} {w : World} {A : Around} {E : Value → Shared → Prop} {s : Shared} {K : Type} [DecidableEq K] {knd : HeapKind prog w K}
/-- whether each pair of the first stands in the second, by the values' own == -/
inductive HitsT (A : Around) (s : Shared) (kb : List (K × Addr × Value)) : List (K × Addr × Value) → Bool → Prop
  | nil : HitsT A s kb [] true
  | miss {x : K × Addr × Value} {r : List (K × Addr × Value)} : atKey kb x.1 = none → HitsT A s kb (x :: r) false
  | hit {x : K × Addr × Value} {p : Addr × Value} {r : List (K × Addr × Value)} {e b : Bool} : atKey kb x.1 = some p → SeqAt.EqAt A s x.2.2 p.2 e → HitsT A s kb r b → HitsT A s kb (x :: r) (e && b)
theorem samePairsT {nm : String} {a b : Addr} {ka kb : List (K × Addr × Value)} {r : Bool} {Q : Bool → Shared → Prop} (hu : knd.room A) (ha : (a == sysModules) = false) (hb : (b == sysModules) = false)
    (da : s.heap.DictOfH knd a ka) (db : s.heap.DictOfH knd b kb) (hits : ka.length = kb.length → HitsT A s kb ka r) (h : Q (ka.length == kb.length && r) s) : wpAny (model prog w) A (Builtin.Dict.samePairs nm a b) Q E s := by
  obtain ⟨oa, ea, pa, ga, _, ua, ta, ia, _⟩ := da
  obtain ⟨ob, eb, pb, gb, _, ub, tb, ib, nb⟩ := db
  have sa := size_of_entries ta
  have sb := size_of_entries tb
  unfold Builtin.Dict.samePairs Builtin.Dict.showsAll
  rw [ha, hb]
  simp only [Bool.false_eq_true, if_false]
  refine wpAny_bind (wpAny_pure (wpAny_bind (wpAny_pure (wpAny_bind (wpAny_dictEntries ga ua ?_)))))
  refine wpAny_bind (wpAny_dictEntries gb ub ?_)
  rw [← sa, ← sb] at h hits
  by_cases sz : ea.size = eb.size
  · have h' : Q r s := by
      rw [sz, beq_self_eq_true, Bool.true_and] at h
      exact h
    have hits' := hits sz
    rw [if_neg (by simp [sz])]
    refine wpAny_bind (wpAny_dictEpoch ga ua (wpAny_bind ?_))
    rw [Std.Legacy.Range.forIn_eq_forIn_range']
    simp only [Std.Legacy.Range.size, Nat.sub_zero, Nat.add_sub_cancel, Nat.div_one]
    refine wpAny_forIn_list _ (fun rest q s' => s' = s ∧ q = (none, ()) ∧ ∃ i, rest = List.range' i (ea.size - i) ∧ i ≤ ea.size ∧ HitsT A s kb (ka.drop i) r) _ (fun x rest q s' hx => ?_) (fun q s' hx => ?_) _ _ ⟨rfl, rfl, 0, by simp, Nat.zero_le _, hits'⟩
    · obtain ⟨es, eq, i, hr, hi, pre⟩ := hx
      subst es eq
      have lt : i < ea.size := by
        rcases Nat.lt_or_ge i ea.size with z | z
        · exact z
        · rw [Nat.sub_eq_zero_of_le z] at hr
          cases hr
      have hr2 : x :: rest = i :: List.range' (i + 1) (ea.size - (i + 1)) := by
        rw [hr, show ea.size - i = (ea.size - (i + 1)) + 1 by omega, List.range'_succ]
      obtain ⟨ex, er⟩ := List.cons.inj hr2
      subst ex
      refine wpAny_bind (wpAny_dictEntries ga ua ?_)
      have lk : x < ka.length := sa ▸ lt
      have en : ea[x]? = some (entryOfKey knd ka[x]) := by rw [entry_at ta x, List.getElem?_eq_getElem lk]; rfl
      rw [en]
      rw [List.drop_eq_getElem_cons lk] at pre
      have iy := ia ka[x] (List.getElem_mem lk)
      generalize ka[x] = y at pre en iy
      show wpAny _ _ (holding [Value.ref y.2.1, y.2.2] _ >>= _) _ _ _
      refine wpAny_bind (wpAny_holding (wpAny_bind ?_))
      show wpAny _ _ (dictFind b (.ref y.2.1) (knd.hash y.1)) _ _ _
      refine wpAny_dictFind_heap hu iy gb ub tb ib nb (fun no => ?_) (fun j p hj => ?_)
      · have mis : r = false := by
          cases pre with
          | miss _ => rfl
          | hit f _ _ =>
            rw [atKey_none_of_get no] at f
            cases f
        rw [mis] at h'
        refine wpAny_pure ?_
        show wpAny _ _ (if (!false) = true then _ else _) _ _ _
        rw [if_pos (by decide)]
        exact wpAny_pure (wpAny_pure h')
      · refine wpAny_bind (wpAny_dictEntries gb ub ?_)
        have fnd := atKey_of_get nb hj
        rw [entry_at tb j, hj]
        cases pre with
        | miss f =>
          rw [fnd] at f
          cases f
        | @hit _ p' _ e b' f q pre' =>
          obtain rfl : p = p' := Option.some.inj (fnd.symm.trans f)
          refine wpAny_holding (q prog w _ _ ?_)
          cases e with
          | false =>
            rw [Bool.false_and] at h'
            show wpAny _ _ (if (!false) = true then _ else _) _ _ _
            rw [if_pos (by decide)]
            exact wpAny_pure (wpAny_pure h')
          | true =>
            rw [Bool.true_and]
            show wpAny _ _ (if (!true) = true then _ else _) _ _ _
            rw [if_neg (by decide)]
            refine wpAny_bind (wpAny_dictEpoch ga ua ?_)
            rw [if_neg (by simp)]
            exact wpAny_pure ⟨rfl, rfl, x + 1, er, lt, pre'⟩
    · obtain ⟨es, eq, i, hr, hi, pre⟩ := hx
      subst es eq
      have ei : i = ea.size := by
        rcases Nat.lt_or_ge i ea.size with z | z
        · rw [show ea.size - i = (ea.size - (i + 1)) + 1 by omega, List.range'_succ] at hr
          cases hr
        · omega
      refine wpAny_pure ?_
      rw [ei, sa, List.drop_length] at pre
      cases pre
      exact h'
  · have ne : (ea.size == eb.size) = false := by simpa using sz
    rw [ne, Bool.false_and] at h
    rw [if_pos (by simp [sz])]
    exact wpAny_bind (wpAny_rule (wpAny_pure h))
theorem eqT {a b : Addr} {ka kb : List (K × Addr × Value)} {r : Bool} {Q : Value → Shared → Prop} (hu : A.units < cLine) (rm : knd.room A.in1) (ha : (a == sysModules) = false) (hb : (b == sysModules) = false)
    (da : s.heap.DictOfH knd a ka) (db : s.heap.DictOfH knd b kb) (hits : ka.length = kb.length → HitsT A.in1 s kb ka r) (h : Q (.bool (ka.length == kb.length && r)) s) : wpAny (model prog w) A (compareOp .Eq (.ref a) (.ref b)) Q E s := by
  have ta : s.TypeIs (.ref a) "dict" := da.typeIs
  have tb : s.TypeIs (.ref b) "dict" := db.typeIs
  refine wpAny_richCompare_same_room (op := .Eq) ta tb PySem.F.slot_dict_eq (wpAny_call_entry PySem.F.slot_dict_eq ta PySem.F.entry_dict_eq ?_ (PySem.F.args_dict_eq_2 _ _)) hu
  show wpAny _ _ (Builtin.Dict.dictSlotArgs "__eq__" ⟨[.ref a, .ref b], []⟩ >>= _) _ _ s
  unfold Builtin.Dict.dictSlotArgs
  refine wpAny_bind (wpAny_bind (wpAny_notOrdered_dict ta ?_))
  show wpAny _ _ (pure (Value.ref a, Value.ref b)) _ _ s
  refine wpAny_pure (wpAny_bind (wpAny_isInstance (T := "dict") tb PySem.F.sub_dict_dict ?_))
  simp only [Bool.not_true, Bool.false_eq_true, if_false]
  refine wpAny_bind (wpAny_pure (wpAny_bind (wpAny_pure (wpAny_bind (samePairsT rm ha hb da db hits ?_)))))
  exact wpAny_pure ⟨_, rfl, (fun x => nomatch x), (by simpa using h)⟩
theorem neT {a b : Addr} {ka kb : List (K × Addr × Value)} {r : Bool} {Q : Value → Shared → Prop} (hu : A.units < cLine) (rm : knd.room A.in1) (ha : (a == sysModules) = false) (hb : (b == sysModules) = false)
    (da : s.heap.DictOfH knd a ka) (db : s.heap.DictOfH knd b kb) (hits : ka.length = kb.length → HitsT A.in1 s kb ka r) (h : Q (.bool (!(ka.length == kb.length && r))) s) : wpAny (model prog w) A (compareOp .NotEq (.ref a) (.ref b)) Q E s := by
  have ta : s.TypeIs (.ref a) "dict" := da.typeIs
  have tb : s.TypeIs (.ref b) "dict" := db.typeIs
  refine wpAny_richCompare_same_room (op := .NotEq) ta tb PySem.F.slot_dict_ne (wpAny_call_entry PySem.F.slot_dict_ne ta PySem.F.entry_dict_ne ?_ (PySem.F.args_dict_ne_2 _ _)) hu
  show wpAny _ _ (Builtin.Dict.dictSlotArgs "__ne__" ⟨[.ref a, .ref b], []⟩ >>= _) _ _ s
  unfold Builtin.Dict.dictSlotArgs
  refine wpAny_bind (wpAny_bind (wpAny_notOrdered_dict ta ?_))
  show wpAny _ _ (pure (Value.ref a, Value.ref b)) _ _ s
  refine wpAny_pure (wpAny_bind (wpAny_isInstance (T := "dict") tb PySem.F.sub_dict_dict ?_))
  simp only [Bool.not_true, Bool.false_eq_true, if_false]
  refine wpAny_bind (wpAny_pure (wpAny_bind (wpAny_pure (wpAny_bind (samePairsT rm ha hb da db hits ?_)))))
  exact wpAny_pure ⟨_, rfl, (fun x => nomatch x), (by simpa using h)⟩
end
section
variable {X : Cx}
/-- whether two dicts by tuples hold the same -/
def dtSame (ks ls : List (List Key × V)) : Bool := ks.length == ls.length && ks.all fun p => decide (valV ls p.1 = some p.2)
def intsT (ks : List (List Key × V)) : Prop := ∀ p ∈ ks, ∃ i, p.2 = V.int i
theorem hitsT_of {A : Around} {s : Shared} {H : Hp} {ls : List (List Key × V)} {yb : List (List Key × Addr × Value)} (rb : KT H ls yb) (lb : intsT ls) {ks : List (List Key × V)} {ya : List (List Key × Addr × Value)} (ra : KT H ks ya) :
    intsT ks → HitsT A s yb ya (ks.all fun p => decide (valV ls p.1 = some p.2)) := by
  induction ra with
  | nil => intro _; exact .nil
  | @cons p q ps qs h t ih =>
    intro ip
    obtain ⟨h1, _, h2⟩ := h
    obtain ⟨i, ei⟩ := ip p List.mem_cons_self
    have z := rb.val p.1
    rw [List.all_cons]
    cases c : valV ls p.1 with
    | none =>
      have n : decide ((none : Option V) = some p.2) = false := by simp
      rw [c] at z
      rw [n, Bool.false_and]
      refine .miss ?_
      rw [← h1]
      cases d : atKey yb p.1 with
      | none => rfl
      | some y =>
        rw [d] at z
        exact (show False from z).elim
    | some v =>
      rw [c] at z
      obtain ⟨pr, hm, em⟩ : ∃ pr ∈ ls, pr.2 = v := by
        obtain ⟨pr, f, e⟩ := Option.map_eq_some_iff.mp c
        exact ⟨pr, List.mem_of_find?_eq_some f, e⟩
      obtain ⟨j, ej⟩ := lb pr hm
      obtain rfl : v = V.int j := em.symm.trans ej
      obtain ⟨u, hu, ru⟩ := RelO.some_of z
      obtain ⟨pq, hq, eq⟩ := Option.map_eq_some_iff.mp hu
      obtain ⟨t1, eu⟩ := (show ∃ t, u = Value.int j t from ru)
      rw [ei] at h2
      obtain ⟨t2, eq2⟩ := (show ∃ t, q.2.2 = Value.int i t from h2)
      refine .hit (p := pq) (by rw [← h1]; exact hq) ?_ (ih fun p' hp => ip p' (List.mem_cons_of_mem _ hp))
      rw [eq, eu, eq2, ei]
      have dd : decide ((some (V.int j) : Option V) = some (V.int i)) = (i == j) := by
        by_cases ij : i = j
        · subst ij; simp
        · have : ¬ j = i := fun z => ij z.symm
          simp [ij, this]
      rw [dd]
      exact SeqAt.EqAt.int_int i t2 j t1
def rEqT : R2 := fun x y H Q => ∃ a b ks ls, x = .ref a ∧ y = .ref b ∧ H a = some (.dT ks) ∧ H b = some (.dT ls) ∧ intsT ks ∧ intsT ls ∧ Q (.bl (dtSame ks ls)) H
def rNeT : R2 := fun x y H Q => ∃ a b ks ls, x = .ref a ∧ y = .ref b ∧ H a = some (.dT ks) ∧ H b = some (.dT ls) ∧ intsT ks ∧ intsT ls ∧ Q (.bl (!dtSame ks ls)) H
theorem op_eqT (hu : X.A.units + 1 < cLine) : OpR X (compareOp .Eq) rEqT := by
  intro pins s σ H x y v u Q I rx ry h
  obtain ⟨a, b, ks, ls, rfl, rfl, ea, eb, ia, ib, q⟩ := h
  cases (show v = Value.ref a from rx)
  cases (show u = Value.ref b from ry)
  obtain ⟨_, za, xa, ra, da⟩ := dt_of I.hok ea
  obtain ⟨_, zb, xb, rb, db⟩ := dt_of I.hok eb
  refine eqT (knd := tupleKind (mixKind X.prog X.w)) (Nat.lt_of_succ_lt hu) (tupleKind_room_in1 hu) za zb da db (fun _ => hitsT_of rb ib ra ia) (fin_bl I q ?_)
  unfold dtSame
  rw [Paired.length ra, Paired.length rb]
theorem op_neT (hu : X.A.units + 1 < cLine) : OpR X (compareOp .NotEq) rNeT := by
  intro pins s σ H x y v u Q I rx ry h
  obtain ⟨a, b, ks, ls, rfl, rfl, ea, eb, ia, ib, q⟩ := h
  cases (show v = Value.ref a from rx)
  cases (show u = Value.ref b from ry)
  obtain ⟨_, za, xa, ra, da⟩ := dt_of I.hok ea
  obtain ⟨_, zb, xb, rb, db⟩ := dt_of I.hok eb
  refine neT (knd := tupleKind (mixKind X.prog X.w)) (Nat.lt_of_succ_lt hu) (tupleKind_room_in1 hu) za zb da db (fun _ => hitsT_of rb ib ra ia) (fin_bl I q ?_)
  unfold dtSame
  rw [Paired.length ra, Paired.length rb]
end
end L2.RV
set_option Elab.async false
set_option linter.all false
set_option maxRecDepth 100000
set_option maxHeartbeats 4000000
/-! Walks over d.values() and d.items(), d by tuples. -/
namespace L2.RV
open PySem PySem.Spec PyProof.Rows
section
variable {X : Cx} {pins : List (Addr × Obj)} {σ : L2.St} {H : Hp} {s : Shared} {d : Addr} {o : Obj}
/-- a locked dict by tuples: its entries, their keys' tuples and values -/
theorem frzV {kvs : List (List Key × V)} (I : Inv X pins σ H s) (h : H d = some (.frz o (.dT kvs))) :
    (d == sysModules) = false ∧ ∃ (es : Array DictEntry) (ep : Nat), o.data = .dict es ep ∧ s.heap.DictRaw d es ep ∧ es.size = kvs.length ∧
      ∀ (i : Nat) (hi : i < es.size) (k : List Key) (v : V), kvs[i]? = some (k, v) → RelV v es[i].val ∧ ∃ q : Addr, es[i].key = .ref q ∧ H q = some (.tup (k.map kV)) := by
  obtain ⟨g, _, nm, xs, pr, o', es, ep, g', ex, dat, te, _⟩ := I.hok d _ h
  obtain rfl : o = o' := Option.some.inj (g.symm.trans g')
  refine ⟨nm, es, ep, dat, ⟨o, g, ex, dat⟩, (size_of_entries te).trans (Paired.length pr).symm, fun i hi k v e => ?_⟩
  obtain ⟨b, hb, e1, e2, e3⟩ := paired_get pr e
  have q := entry_at te i
  rw [hb, Array.getElem?_eq_getElem hi] at q
  rw [Option.some.inj q]
  exact ⟨e3, b.2.1, rfl, e2⟩
end
/-- the values -/
def Itdv (d : Addr) (o : Obj) (kvs : List (List Key × V)) : It where
  go := fun i H => H d = some (.frz o (.dT kvs)) ∧ i < kvs.length
  yld := fun i H x H' => H' = H ∧ ∃ k, kvs[i]? = some (k, x)
  stop := fun i H => H d = some (.frz o (.dT kvs)) ∧ kvs.length ≤ i
/-- the pairs, each a new tuple of the key's own one and the value -/
def Itdi (d : Addr) (o : Obj) (kvs : List (List Key × V)) : It where
  go := fun i H => H d = some (.frz o (.dT kvs)) ∧ i < kvs.length
  yld := fun i H x H' => ∃ T q k v, kvs[i]? = some (k, v) ∧ x = .ref T ∧ H q = some (.tup (k.map kV)) ∧ H T = none ∧ H' = upd H T (.tup [.ref q, v])
  stop := fun i H => H d = some (.frz o (.dT kvs)) ∧ kvs.length ≤ i
section
variable {P : Program} {w : World} {K : PySem.W.Frag} {tg : Expr} {d : Addr} {o : Obj} {es : Array DictEntry} {ep : Nat}
theorem turn_valsT {kvs : List (List Key × V)} (it : Addr) (hod : o.data = .dict es ep) : Turn P w K tg (Itdv d o kvs) [it] it (fun i h => h.IsValIter it d i kvs.length ep) where
  mem := by simp
  obj := fun i h st b hb => by
    obtain rfl : b = it := by simpa using hb
    obtain ⟨oi, e, _, dd⟩ := st
    refine ⟨oi, e, fun v z => ?_⟩
    rw [dd] at z
    cases z
  keep := fun i h h' st k => st.at fun oi e => k it (by simp) oi e
  item := by
    intro X hP hw hK hc i pins s σ H E I hf st hg
    subst hP hw hK
    obtain ⟨hd, hi⟩ := hg
    have ff := hf it (by simp)
    obtain ⟨_, es', ep', dat, raw, sz, ent⟩ := frzV I hd
    obtain ⟨rfl, rfl⟩ := dict_ep hod dat
    have lt : i < es'.size := by omega
    have hkv : kvs[i]? = some (kvs[i].1, kvs[i].2) := List.getElem?_eq_getElem hi
    rw [← sz] at st
    refine wpAny_pyNext_values_item_raw st raw lt fun h' st' sb => ?_
    have I1 : Inv X pins σ H { s with heap := h' } := I.turned (t' := s.toks) (fun b ob hb e => (sb.2 b hb).trans e) ff.1 ff.2.1 ff.2.2.2.1 ff.2.2.2.2.1 ff.2.2.2.2.2
    obtain ⟨oi, e, c, dd⟩ := id st'
    refine ⟨es'[i].val, rfl, go_of (s := { s with heap := h' }) e c dd (by decide) ⟨kvs[i].2, H, I1, (ent i lt _ _ hkv).1, ⟨rfl, _, hkv⟩, ?_, fun b hb => (hf b hb).1⟩⟩
    show h'.IsValIter it d (i + 1) kvs.length _
    rw [← sz]
    exact st'
  done := by
    intro X hP hw hK hc i pins s σ H E I hf st hg
    subst hP hw hK
    obtain ⟨hd, hi⟩ := hg
    have ff := hf it (by simp)
    obtain ⟨_, es', ep', dat, raw, sz, ent⟩ := frzV I hd
    obtain ⟨rfl, rfl⟩ := dict_ep hod dat
    rw [← sz] at st
    exact wpAny_pyNext_values_end_raw (I.ok.hd hc) st raw (by omega) fun h' eb => ⟨rfl, I.turned (t' := s.toks) (fun b ob hb e => eb b ob hb e) ff.1 ff.2.1 ff.2.2.2.1 ff.2.2.2.2.1 ff.2.2.2.2.2⟩
  self := fun A i s Q E st h => wpAny_pyIter_valiter st h
theorem turn_itemsT {kvs : List (List Key × V)} {elts : List Expr} {kk : Nat} {tpos : Pos} (it : Addr) (hod : o.data = .dict es ep) :
    Turn P w K (.Tuple elts kk tpos) (Itdi d o kvs) [it] it (fun i h => ∃ ok ov, IsItemIter h it d i kvs.length ep ok ov) where
  mem := by simp
  obj := fun i h st b hb => by
    obtain rfl : b = it := by simpa using hb
    obtain ⟨ok, ov, e⟩ := st
    exact ⟨_, e, fun v z => nomatch z⟩
  keep := fun i h h' st k => let ⟨ok, ov, e⟩ := st; ⟨ok, ov, k it (by simp) _ e⟩
  item := by
    intro X hP hw hK hc i pins s σ H E I hf st hg
    subst hP hw hK
    obtain ⟨hd, hi⟩ := hg
    obtain ⟨_, es', ep', dat, raw, sz, ent⟩ := frzV I hd
    obtain ⟨rfl, rfl⟩ := dict_ep hod dat
    have lt : i < es'.size := by omega
    have hkv : kvs[i]? = some (kvs[i].1, kvs[i].2) := List.getElem?_eq_getElem hi
    obtain ⟨rv, q, ek, hq⟩ := ent i lt _ _ hkv
    obtain ⟨ok, ov, he⟩ := st
    rw [← sz] at he
    have below : it < s.heap.objs.size := Heap.lt_size he
    refine wpAny_pyNext_items_item_raw he raw lt fun h' ho hT hz hk => ?_
    refine ⟨_, rfl, wpAny_letOwnedTupleGo_items (s := { s with heap := h' }) ho fun h'' he' sb => ?_⟩
    have hT2 : h''.get? s.heap.objs.size = some { cls := .type "tuple", data := .seq #[es'[i].key, es'[i].val] } := (sb.2 _ (Nat.ne_of_gt below)).trans hT
    have new : ObjOk X.prog X.w (upd H s.heap.objs.size (.tup [.ref q, kvs[i].2])) h'' s.heap.objs.size (.tup [.ref q, kvs[i].2]) :=
      ⟨by show 2 ≤ sizeLine; decide, [es'[i].key, es'[i].val], .cons ek (.cons rv .nil), ⟨_, hT2, rfl, _, rfl⟩⟩
    have I1 := I.turnedNew (t' := s.toks) (h' := h'') (ch := [it]) (fun b ob hb e => (sb.2 b (by simpa using hb)).trans (hk b ob (by simpa using hb) e)) hf (Nat.le_refl _) new
    refine ⟨.ref s.heap.objs.size, _, I1, rfl, ⟨_, q, _, _, hkv, rfl, hq, I.hok.fresh (Nat.le_refl _), rfl⟩, ⟨es'[i].key, es'[i].val, by rw [← sz]; exact he'⟩, fun b hb => ?_⟩
    obtain rfl : b = it := by simpa using hb
    exact (upd_ne (Nat.ne_of_lt below)).trans (hf b (by simp)).1
  done := by
    intro X hP hw hK hc i pins s σ H E I hf st hg
    subst hP hw hK
    obtain ⟨hd, hi⟩ := hg
    have ff := hf it (by simp)
    obtain ⟨_, es', ep', dat, raw, sz, ent⟩ := frzV I hd
    obtain ⟨rfl, rfl⟩ := dict_ep hod dat
    obtain ⟨ok, ov, he⟩ := st
    rw [← sz] at he
    exact wpAny_pyNext_items_end_raw (I.ok.hd hc) he raw (by omega) fun h' eb => ⟨rfl, I.turned (t' := s.toks) (fun b ob hb e => eb b ob hb e) ff.1 ff.2.1 ff.2.2.2.1 ff.2.2.2.2.1 ff.2.2.2.2.2⟩
  self := fun A i s Q E st h => let ⟨_, _, e⟩ := st; PySem.W.kcp_self e h
end
/-- the dict is locked by the caller -/
def iValsT (td : TE) : TI := fun σ H R => td σ H fun x H1 => ∃ d o kvs, x = .ref d ∧ H1 d = some (.frz o (.dT kvs)) ∧ R (Itdv d o kvs) H1
def iItemsT (td : TE) : TI := fun σ H R => td σ H fun x H1 => ∃ d o kvs, x = .ref d ∧ H1 d = some (.frz o (.dT kvs)) ∧ R (Itdi d o kvs) H1
section
variable {X : Cx} {tg e : Expr} {td : TE} {apos cpos : Pos}
theorem pi_valuesT (he : PE X e td) (hbase : attributeBase e "values" X.env (eval e X.env) = eval e X.env := by rfl) (hline : (apos.endLine == cpos.line) = true := by rfl) : PI X tg (.Call (.Attribute e "values" apos) [] [] cpos) (iValsT td) := by
  refine ⟨fun pins s σ H R I h => ?_⟩
  refine wpAny_Call_method (T := "dict") (id := "dict.values") hbase rfl hline F.plainAttrs_dict F.slot_dict_values F.type_dict_values (thn (he.run pins s σ H _ I h) fun u sA hA => ?_)
  obtain ⟨x, H1, I1, rx, d, o, kvs, rfl, hd, q⟩ := hA
  cases (show u = Value.ref d from rx)
  obtain ⟨nm, es, ep, dat, raw, sz, ent⟩ := frzV I1 hd
  refine ⟨raw.typeIs, ?_, ?_⟩
  · intro a ea
    cases ea
    obtain ⟨o', g, x, _⟩ := raw
    exact ⟨o', g, x.2.1⟩
  have I2 : Inv X pins σ H1 { sA with heap := sA.heap.push { cls := .type "dict_values", data := .fields #[.ref d] } } := I1.kept (t' := sA.toks) fun b ob q => Heap.get?_push_of_some _ q
  have fin : wpAny (model X.prog X.w) X.A (pyIter (.ref sA.heap.objs.size)) (PIE X pins σ tg R) X.xe { sA with heap := sA.heap.push { cls := .type "dict_values", data := .fields #[.ref d] } } := by
    refine wpAny_pyIter_values_raw (d := d) ⟨_, Heap.get?_push_size _ rfl, rfl, rfl⟩ (raw.at fun o e => Heap.get?_push_of_some _ e) (pi_one (tk := sA.toks) I2 _ (turn_valsT _ dat) ⟨_, Heap.get?_push_size _ rfl, rfl, ?_⟩ q)
    rw [sz] <;> rfl
  show wpAny _ _ (callWith cpos (.builtin "dict.values") [.ref d] [] []) _ X.xe sA
  exact method_meetsIn F.slot_dict_values F.entry_dict_values rfl (PySem.evalArgs_none ⟨rfl, raw.typeIs, F.args_dict_values_1 _, _, meets_dict_values_raw d nm, ⟨⟨es, ep, raw⟩, fin⟩⟩)
theorem pi_itemsT {elts : List Expr} {kk : Nat} {tpos : Pos} (he : PE X e td) (hbase : attributeBase e "items" X.env (eval e X.env) = eval e X.env := by rfl) (hline : (apos.endLine == cpos.line) = true := by rfl) :
    PI X (.Tuple elts kk tpos) (.Call (.Attribute e "items" apos) [] [] cpos) (iItemsT td) := by
  refine ⟨fun pins s σ H R I h => ?_⟩
  refine wpAny_Call_method (T := "dict") (id := "dict.items") hbase rfl hline F.plainAttrs_dict F.slot_dict_items F.type_dict_items (thn (he.run pins s σ H _ I h) fun u sA hA => ?_)
  obtain ⟨x, H1, I1, rx, d, o, kvs, rfl, hd, q⟩ := hA
  cases (show u = Value.ref d from rx)
  obtain ⟨nm, es, ep, dat, raw, sz, ent⟩ := frzV I1 hd
  refine ⟨raw.typeIs, ?_, ?_⟩
  · intro a ea
    cases ea
    obtain ⟨o', g, x, _⟩ := raw
    exact ⟨o', g, x.2.1⟩
  have I2 : Inv X pins σ H1 { sA with heap := sA.heap.push { cls := .type "dict_items", data := .fields #[.ref d] } } := I1.kept (t' := sA.toks) fun b ob q => Heap.get?_push_of_some _ q
  have fin : wpAny (model X.prog X.w) X.A (pyIter (.ref sA.heap.objs.size)) (PIE X pins σ (.Tuple elts kk tpos) R) X.xe { sA with heap := sA.heap.push { cls := .type "dict_items", data := .fields #[.ref d] } } := by
    refine wpAny_pyIter_items_raw (d := d) ⟨_, Heap.get?_push_size _ rfl, rfl, rfl⟩ (raw.at fun o e => Heap.get?_push_of_some _ e) (pi_one (tk := sA.toks) I2 _ (turn_itemsT _ dat) ⟨.none, .none, ?_⟩ q)
    rw [← sz]
    exact Heap.get?_push_size _ rfl
  show wpAny _ _ (callWith cpos (.builtin "dict.items") [.ref d] [] []) _ X.xe sA
  exact method_meetsIn F.slot_dict_items F.entry_dict_items rfl (PySem.evalArgs_none ⟨rfl, raw.typeIs, F.args_dict_items_1 _, _, meets_dict_items_raw d nm, ⟨⟨es, ep, raw⟩, fin⟩⟩)
end
section
variable {d : Addr} {o : Obj} {kvs : List (List Key × V)}
theorem walk_valsT : Walk (Itdv d o kvs) kvs.length (fun H => H d = some (.frz o (.dT kvs))) (fun i H x H' => H' = H ∧ ∃ k, kvs[i]? = some (k, x)) :=
  ⟨fun i H hi h => ⟨h, hi⟩, fun H h => ⟨h, Nat.le_refl _⟩, fun i H x H' _ _ y => y⟩
theorem walk_itemsT : Walk (Itdi d o kvs) kvs.length (fun H => H d = some (.frz o (.dT kvs))) (fun i H x H' => ∃ T q k v, kvs[i]? = some (k, v) ∧ x = .ref T ∧ H q = some (.tup (k.map kV)) ∧ H T = none ∧ H' = upd H T (.tup [.ref q, v])) :=
  ⟨fun i H hi h => ⟨h, hi⟩, fun H h => ⟨h, Nat.le_refl _⟩, fun i H x H' _ _ y => y⟩
end
end L2.RV
set_option Elab.async false
set_option linter.all false
set_option maxRecDepth 100000
set_option maxHeartbeats 4000000
/-! dict(xs) of a list of pairs whose keys are tuples. -/
namespace L2.RV
open PySem PySem.Spec PyProof.Rows
section
variable {prog : Program} {w : World} {A : Around} {E : Value → Shared → Prop}
abbrev tkm (prog : Program) (w : World) : HeapKind prog w (List L2.Key) := tupleKind (mixKind prog w)
/-- one pair after the other -/
def mergeH (acc : List (List L2.Key × Addr × Value)) (more : List (List L2.Key × Addr × Value)) : List (List L2.Key × Addr × Value) := more.foldl (fun d q => storedH d q.1 q.2.1 q.2.2) acc
theorem key_keep {h h' : Heap} {k : List L2.Key} {a : Addr} (x : (tkm prog w).is h k a) (e : ∀ o, h.get? a = some o → h'.get? a = some o) : (tkm prog w).is h' k a := by
  obtain ⟨o, its, n, g, r⟩ := x
  exact ⟨o, its, n, e _ g, r⟩
theorem key_ne {h : Heap} {k : List L2.Key} {a b l : Addr} {i : Nat} (x : (tkm prog w).is h k a) (y : h.IsListIter b l i) : a ≠ b := by
  rintro rfl
  obtain ⟨o, its, n, g, c, _⟩ := x
  obtain ⟨o', g', c', _⟩ := y
  rw [g] at g'
  cases g'
  rw [c] at c'
  injection c' with z
  exact absurd z (by decide)
theorem dict_keep {h h' : Heap} {S b l : Addr} {i : Nat} {acc : List (List L2.Key × Addr × Value)} (x : h.DictOfH (tkm prog w) S acc) (y : h.IsListIter b l i) (ne : S ≠ b) (e : ∀ c o, c ≠ b → h.get? c = some o → h'.get? c = some o) : h'.DictOfH (tkm prog w) S acc := by
  obtain ⟨o, es, ep, g, ex, dd, te, ks, nd⟩ := x
  exact ⟨o, es, ep, e _ _ ne g, ex, dd, te, fun z hz => key_keep (ks z hz) fun o' => e _ _ (key_ne (ks z hz) y), nd⟩
theorem stored_le {xs : List (List L2.Key × Addr × Value)} {k : List L2.Key} {a : Addr} {v : Value} : (storedH xs k a v).length ≤ xs.length + 1 := by
  unfold storedH
  split
  · rw [List.length_map]; exact Nat.le_succ _
  · rw [List.length_append]; exact Nat.le_refl _
/-- what is left of the pairs -/
theorem upd_loopT {R : Result → Shared → Prop} {S I l : Addr} {items : Array Value} {res : Value} (hu : A.units + 2 < cLine) (hh : A.handled = none) (lI : l ≠ I) (SI : S ≠ I) (Sl : S ≠ l) :
    ∀ (rest : List (List L2.Key × Addr × Value)) (i : Nat) (acc : List (List L2.Key × Addr × Value)) (ix : Int) (t : Tok) (s : Shared), items.size = i + rest.length → acc.length + rest.length ≤ sizeLine →
      (∀ (j : Nat) (q : List L2.Key × Addr × Value), rest[j]? = some q → ∃ b : Addr, items[i + j]? = some (.ref b) ∧ b ≠ S ∧ b ≠ I ∧ IsTup s.heap b #[.ref q.2.1, q.2.2] ∧ q.2.1 ≠ S ∧ (tkm prog w).is s.heap q.1 q.2.1) →
      s.heap.IsListIter I l i → s.heap.IsList l items → s.heap.DictOfH (tkm prog w) S acc →
      (∀ h' tk, h'.DictOfH (tkm prog w) S (mergeH acc rest) → (∀ b o, b ≠ S → b ≠ I → s.heap.get? b = some o → h'.get? b = some o) → R (.ok (.ret res)) { s with heap := h', toks := tk }) →
      codeAny (model prog w) A (.builtin "dict.update.loop" ⟨[.ref S, .ref I, .int ix t, res], []⟩) R s := by
  intro rest
  induction rest with
  | nil =>
    intro i acc ix t s sz len tups iter lst dct fin
    refine codeAny_builtin ud_entry ?_
    rw [Around.under_plainId ud_plain _]
    show wpAny _ A.in1 (pyNext (.ref I) >>= _) _ _ s
    have past : items[i]? = none := Array.getElem?_eq_none (Nat.le_of_eq sz)
    refine wpAny_bind (wpAny_pyNext_list_end (A := A.in1) hh iter lst past fun h' he => ?_)
    show wpAny _ A.in1 (Builtin.Dict.addKeywords S [] >>= _) _ _ _
    exact wpAny_bind (wpAny_pure (wpAny_pure (fin h' s.toks (dict_keep dct iter SI fun c o n e => he c o n e) fun b o _ n e => he b o n e)))
  | cons q rest ih =>
    intro i acc ix t s sz len tups iter lst dct fin
    obtain ⟨b, hb, bS, bI, tup, qS, key⟩ := tups 0 q rfl
    rw [List.length_cons] at sz len
    refine codeAny_builtin ud_entry ?_
    rw [Around.under_plainId ud_plain _]
    show wpAny _ A.in1 (pyNext (.ref I) >>= _) _ _ s
    refine wpAny_bind (wpAny_pyNext_list_item (x := .ref b) iter lst (by simpa using hb) fun h1 iter1 sb1 => ?_)
    have tup1 : IsTup h1 b #[.ref q.2.1, q.2.2] := tup.extBut sb1.extBut bI
    have lst1 : h1.IsList l items := lst.extBut sb1.extBut lI
    have dct1 : h1.DictOfH (tkm prog w) S acc := dict_keep dct iter SI fun c o n e => sb1.extBut c o n e
    have key1 : (tkm prog w).is h1 q.1 q.2.1 := key_keep key fun o e => sb1.extBut _ o (key_ne key iter) e
    obtain ⟨o, g, c, n, dat⟩ := id tup1
    show wpAny _ A.in1 (holding [Value.ref b] _ >>= _) _ _ _
    refine wpAny_bind (wpAny_holding (wpAny_bind (wpAny_tryCatch ?_)))
    unfold Builtin.Dict.pairItems
    refine wpAny_bind (wpAny_typeOf (T := "tuple") ⟨o, g, c⟩ ?_)
    rw [if_pos (by first | decide | rfl | simp)]
    refine wpAny_bind (wpAny_seqItems g dat (wpAny_pure ?_))
    show wpAny _ A.in1 (holding [Value.ref q.2.1, q.2.2] (dictSet S (.ref q.2.1) q.2.2)) _ _ _
    refine wpAny_holding (wpAny_dictSet_heap (knd := tkm prog w) (k := q.1) (show A.in1.units < cLine from Nat.lt_of_le_of_lt (Nat.le_succ _) hu) key1 dct1 (fun h2 dct2 sb2 => ?_) (by omega))
    refine wpAny_pure ⟨plainId_quiet ud_plain _, ih (i + 1) (storedH acc q.1 q.2.1 q.2.2) (ix + 1) 0 _ (by omega) ?_ (fun j q' e => ?_) ?_ ?_ dct2 fun h' tk hd' k => ?_⟩
    · have z := stored_le (xs := acc) (k := q.1) (a := q.2.1) (v := q.2.2)
      omega
    · obtain ⟨b', hb', bS', bI', tup', qS', key'⟩ := tups (j + 1) q' (by simpa using e)
      refine ⟨b', ?_, bS', bI', (tup'.extBut sb1.extBut bI').extBut sb2.extBut bS', qS', key_keep (key_keep key' fun o e => sb1.extBut _ o (key_ne key' iter) e) fun o e => sb2.extBut _ o qS' e⟩
      rw [show i + 1 + j = i + (j + 1) by omega]
      exact hb'
    · exact iter1.at fun o' e => sb2.extBut I o' (Ne.symm SI) e
    · exact lst1.extBut sb2.extBut (Ne.symm Sl)
    · exact fin h' tk hd' fun c oc n1 n2 e => k c oc n1 n2 (sb2.extBut c oc n1 (sb1.extBut c oc n2 e))
theorem call_dict_pairsT {s : Shared} {l : Addr} {ol : Obj} {items : Array Value} {n : Nat} {prs : List (List L2.Key × Addr × Value)} {Q : Value → Shared → Prop} (hu : A.units + 4 < cLine) (hh : A.handled = none) (hl : s.heap.get? l = some ol) (hc : ol.cls = .type "list") (hd : ol.dict = none)
    (dat : ol.data = .seq items n) (sz : items.size = prs.length) (len : prs.length ≤ sizeLine)
    (tups : ∀ (j : Nat) (q : List L2.Key × Addr × Value), prs[j]? = some q → ∃ b : Addr, items[j]? = some (.ref b) ∧ IsTup s.heap b #[.ref q.2.1, q.2.2] ∧ (tkm prog w).is s.heap q.1 q.2.1)
    (h : ∀ h' tk, h'.DictOfH (tkm prog w) s.heap.objs.size (mergeH [] prs) → (∀ b o, s.heap.get? b = some o → h'.get? b = some o) → Q (.ref s.heap.objs.size) { s with heap := h', toks := tk }) :
    wpAny (model prog w) A (call (.type "dict") [.ref l]) Q E s := by
  refine callType_codes (Q₁ := fun obj sA => obj = .ref s.heap.objs.size ∧ sA = { s with heap := s.heap.push { cls := .type "dict", data := .dict #[] } }) PySem.F.kt_called_dict (PySem.F.kt_typeCall_dict_1 _) PySem.F.entry_dict_init (kt_code_dict_new _ ⟨rfl, rfl⟩) ?_
  intro obj sA hA
  obtain ⟨rfl, rfl⟩ := hA
  have new : (s.heap.push { cls := .type "dict", data := .dict #[] }).DictOfH (tkm prog w) s.heap.objs.size [] := Heap.DictOfH.new s.heap
  have k0 : ∀ b o, s.heap.get? b = some o → (s.heap.push { cls := .type "dict", data := .dict #[] }).get? b = some o := fun b o e => Heap.get?_push_of_some _ e
  have tD : Shared.TypeIs { s with heap := s.heap.push { cls := .type "dict", data := .dict #[] } } (.ref s.heap.objs.size) "dict" := new.typeIs
  refine ⟨tD, PySem.F.args_dict_init_2 _ _, ?_⟩
  unfold Builtin.«dict.__init__» Builtin.Dict.selfAndRest
  refine wpAny_bind (wpAny_bind (wpAny_notOrdered_dict tD ?_))
  show wpAny _ _ (pure (s.heap.objs.size, [Value.ref l])) _ _ _
  refine wpAny_pure ?_
  show wpAny _ _ (Builtin.Dict.updateFrom "dict.__init__" s.heap.objs.size (.ref l) [] .none) _ _ _
  unfold Builtin.Dict.updateFrom
  refine wpAny_bind (wpAny_typeOf (T := "list") ⟨ol, k0 _ _ hl, hc⟩ ?_)
  rw [if_pos (by first | decide | rfl | simp)]
  refine wpAny_bind (miss_list (k0 _ _ hl) hc dat hd hh fun h1 tk1 k1 => ?_)
  rw [if_pos (show (none : Option Value).isNone = true from rfl)]
  refine wpAny_bind (wpAny_rule ?_)
  have lst1 : h1.IsList l items := ⟨ol, k1 _ _ (k0 _ _ hl), hc, n, dat⟩
  have gS : (s.heap.push { cls := .type "dict", data := .dict #[] }).get? s.heap.objs.size = some { cls := .type "dict", data := .dict #[] } := Heap.get?_push_size _ rfl
  have S1 : s.heap.objs.size < h1.objs.size := Heap.lt_size (k1 _ _ gS)
  refine wpAny_bind (wpAny_pyIter_list lst1 ?_)
  have k2 : ∀ b o, h1.get? b = some o → (h1.push { cls := .type "list_iterator", data := .fields #[.ref l, .int 0 0] }).get? b = some o := fun b o e => Heap.get?_push_of_some _ e
  have kA : ∀ b o, s.heap.get? b = some o → (h1.push { cls := .type "list_iterator", data := .fields #[.ref l, .int 0 0] }).get? b = some o := fun b o e => k2 _ _ (k1 _ _ (k0 _ _ e))
  have below : l < s.heap.objs.size := Heap.lt_size hl
  have dct : (h1.push { cls := .type "list_iterator", data := .fields #[.ref l, .int 0 0] }).DictOfH (tkm prog w) s.heap.objs.size [] := ⟨_, #[], 0, k2 _ _ (k1 _ _ gS), ⟨rfl, rfl, rfl⟩, rfl, rfl, fun x hx => absurd hx List.not_mem_nil, List.nodup_nil⟩
  have key := upd_loopT (prog := prog) (w := w) (A := A.in1) (R := wants (fun r sZ => r = .none ∧ Q (.ref s.heap.objs.size) sZ) E) (S := s.heap.objs.size) (I := h1.objs.size) (l := l) (items := items) (res := Value.none)
    (by show A.in1.units + 2 < cLine; exact Nat.lt_of_le_of_lt (by show A.units + 1 + 2 ≤ A.units + 4; omega) hu) hh (Nat.ne_of_lt (Nat.lt_trans below S1)) (Nat.ne_of_lt S1) (Nat.ne_of_gt below) prs 0 [] 0 0
    { s with heap := h1.push { cls := .type "list_iterator", data := .fields #[.ref l, .int 0 0] }, toks := tk1 } (by rw [sz, Nat.zero_add]) (by rw [List.length_nil, Nat.zero_add]; exact len)
    (fun j q e => by
      obtain ⟨b, e1, e2, e3⟩ := tups j q e
      have lb : b < s.heap.objs.size := e2.lt
      have lq : q.2.1 < s.heap.objs.size := by
        obtain ⟨o, _, _, g, _⟩ := e3
        exact Heap.lt_size g
      exact ⟨b, by rw [Nat.zero_add]; exact e1, Nat.ne_of_lt lb, Nat.ne_of_lt (Nat.lt_trans lb S1), e2.keeps kA, Nat.ne_of_lt lq, key_keep e3 fun o => kA _ o⟩)
    ⟨_, Heap.get?_push_size _ rfl, rfl, rfl⟩ (lst1.at fun o e => k2 _ _ e) dct
    (fun h' tk hd' k => ⟨rfl, h h' tk hd' fun b o e => k b o (Nat.ne_of_lt (Heap.lt_size e)) (Nat.ne_of_lt (Nat.lt_trans (Heap.lt_size e) S1)) (kA _ _ e)⟩)
  first
    | exact wpAny_pure ⟨plainId_quiet ud_plain _, key⟩
    | exact wpAny_bind (wpAny_pure (wpAny_pure ⟨plainId_quiet ud_plain _, key⟩))
end
section
variable {X : Cx}
/-- a pair of a key's tuple and a value, at p -/
def PairAt (H : Hp) (p : Addr) (kv : List L2.Key × V) : Prop := ∃ q : Addr, H p = some (.tup [.ref q, kv.2]) ∧ H q = some (.tup (kv.1.map kV))
def mergeT (acc more : List (List L2.Key × V)) : List (List L2.Key × V) := more.foldl (fun d kv => putK d kv.1 kv.2) acc
theorem length_mergeT : ∀ (more acc : List (List L2.Key × V)), (mergeT acc more).length ≤ acc.length + more.length
  | [], acc => Nat.le_refl _
  | p :: r, acc => by
    have h1 := length_mergeT r (putK acc p.1 p.2)
    have h2 := length_putK acc p.1 p.2
    show (mergeT (putK acc p.1 p.2) r).length ≤ _
    rw [List.length_cons]
    omega
theorem KT.merge {H : Hp} : ∀ {more : List (List L2.Key × V)} {rs : List (List L2.Key × Addr × Value)} {kvs : List (List L2.Key × V)} {vs : List (List L2.Key × Addr × Value)}, KT H more rs → KT H kvs vs → KT H (mergeT kvs more) (mergeH vs rs)
  | _, _, _, _, .nil, r => r
  | _, _, kvs, vs, .cons (a := p) (b := q) h t, r => by
    have z := KT.put r p.1 (b := q.2.1) h.2.1 h.2.2
    show KT H (mergeT (putK kvs p.1 p.2) _) (mergeH (storedH vs q.1 q.2.1 q.2.2) _)
    rw [← h.1]
    exact KT.merge t z
theorem pairsT_of {pins : List (Addr × Obj)} {σ : L2.St} {H : Hp} {s : Shared} (I : Inv X pins σ H s) : ∀ {ps : List Addr} {kvs : List (List L2.Key × V)}, Paired (PairAt H) ps kvs →
    ∃ prs : List (List L2.Key × Addr × Value), KT H kvs prs ∧ prs.length = ps.length ∧ ∀ (j : Nat) (q : List L2.Key × Addr × Value), prs[j]? = some q → ∃ b : Addr, ps[j]? = some b ∧ IsTup s.heap b #[.ref q.2.1, q.2.2] ∧ (tkm X.prog X.w).is s.heap q.1 q.2.1
  | _, _, .nil => ⟨[], .nil, rfl, fun j q e => by simp at e⟩
  | _, _, .cons (a := p) (b := kv) h t => by
    obtain ⟨prs, r, hl, hp⟩ := pairsT_of I t
    obtain ⟨q, e1, e2⟩ := h
    obtain ⟨_, its, rv, tu⟩ := (show ObjOk X.prog X.w H s.heap p (.tup [.ref q, kv.2]) from I.hok p _ e1)
    obtain ⟨u, y, ei, ru, ry⟩ := vals2 rv
    subst ei
    cases (show u = Value.ref q from ru)
    refine ⟨(kv.1, q, y) :: prs, .cons ⟨rfl, e2, ry⟩ r, by rw [List.length_cons, List.length_cons, hl], fun j z e => ?_⟩
    cases j with
    | zero =>
      obtain rfl : (kv.1, q, y) = z := Option.some.inj e
      exact ⟨p, rfl, tu, key_of I.hok e2⟩
    | succ j =>
      obtain ⟨b, g1, g2, g3⟩ := hp j z (by simpa using e)
      exact ⟨b, by simpa using g1, g2, g3⟩
/-- dict(xs) of a list of pairs, the keys tuples -/
theorem call_dictT (hu : X.A.units + 4 < cLine) (calm : X.calm = true) : CallR X (.type "dict") (fun xs H Q => ∃ (a : Addr) (ps : List Addr) (kvs : List (List L2.Key × V)), xs = [.ref a] ∧ SqL X.K H a (ps.map V.ref) ∧ Paired (PairAt H) ps kvs ∧
    ∀ p, H p = none → Q (.ref p) (upd H p (.dT (mergeT [] kvs)))) := by
  intro pins s σ H xs us Q I r q
  obtain ⟨a, ps, kvs, rfl, hq, hp, q⟩ := q
  obtain ⟨u, rfl, rx⟩ := vals1 r
  cases (show u = Value.ref a from rx)
  obtain ⟨its, rv, pl, hz⟩ := I.list hq
  obtain rfl := refs_at rv
  rw [List.length_map] at hz
  obtain ⟨prs, rel, hl, hpr⟩ := pairsT_of I hp
  obtain ⟨o, n, ho, hc, hd, hdat⟩ := pl
  refine call_dict_pairsT (prs := prs) hu (I.ok.hd calm) ho hc hd hdat (by simp [hl]) (by rw [hl]; exact hz) (fun j q' e => ?_) fun h' tk hd' k => ?_
  · obtain ⟨b, e1, e2, e3⟩ := hpr j q' e
    exact ⟨b, by simp [e1], e2, e3⟩
  · have nm : (s.heap.objs.size == sysModules) = false := beq_eq_false_iff_ne.mpr (Nat.ne_of_gt I.big)
    have np : H s.heap.objs.size = none := I.hok.fresh (Nat.le_refl _)
    have hlen : (mergeT [] kvs).length ≤ sizeLine := by
      refine Nat.le_trans (length_mergeT kvs []) ?_
      rw [List.length_nil, Nat.zero_add, Paired.length rel, hl]
      exact hz
    obtain ⟨o2, es, ep, g1, g2, g3, g4, _, g5⟩ := hd'
    refine ⟨.ref s.heap.objs.size, upd H s.heap.objs.size (.dT (mergeT [] kvs)), I.laid (t' := tk) k (Nat.le_refl _) ⟨hlen, nm, mergeH [] prs, ?_, o2, es, ep, g1, g2, g3, g4, g5⟩, rfl, q _ np⟩
    exact KT.keeps (KT.merge rel .nil) fun c ys ec => (upd_ne (fun z => by rw [z, np] at ec; cases ec)).trans ec
end
end L2.RV
set_option Elab.async false
set_option linter.all false
set_option maxRecDepth 100000
set_option maxHeartbeats 4000000
/-! Rules whose transformers name K, not X.K: for the parts of comprehensions. -/
namespace L2.RV
open PySem PySem.Spec PyProof.Rows
section
variable {X : Cx} {K : PySem.W.Frag} {e a : Expr} {ta : TE} {f : Str} {pos : Pos} {tg : Expr}
theorem pe_fldK (hK : X.K = K) (he : PE X e ta) (hb : attributeBase e f X.env (eval e X.env) = eval e X.env) : PE X (.Attribute e f pos) (tFld K ta f) := hK ▸ pe_fld he hb
theorem ix_seqK (hK : X.K = K) : IxR X (rIx K) := hK ▸ ix_seq
theorem op_sameK (hK : X.K = K) (hu : X.A.units + 64 < cLine) : OpR X (compareOp .Eq) (rSame K) := hK ▸ op_same hu
theorem op_diffK (hK : X.K = K) (hu : X.A.units + 64 < cLine) : OpR X (compareOp .NotEq) (rDiff K) := hK ▸ op_diff hu
theorem op_inK (hK : X.K = K) : OpR X (compareOp .In) (rIn K false) := hK ▸ op_in_seq
theorem op_notInK (hK : X.K = K) : OpR X (compareOp .NotIn) (rIn K true) := hK ▸ op_notIn_seq
def rLenK (K : PySem.W.Frag) : List V → Hp → VK → Prop := fun xs H Q => ∃ x n, xs = [x] ∧ LenV K x H n ∧ Q (.int n) H
theorem call_lenK (hK : X.K = K) : CallR X (.builtin "len") (rLenK K) := by
  subst hK
  exact call_len
theorem pi_sqK (hK : X.K = K) (he : PE X e ta) : PI X tg e (iSq K ta) := hK ▸ pi_sq he
end
end L2.RV
set_option Elab.async false
set_option linter.all false
set_option maxRecDepth 100000
set_option maxHeartbeats 4000000
/-! len(set(xs)), xs a list or a tuple of texts. -/
namespace L2.RV
open PySem PySem.Spec PyProof.Rows
/-- each text once, in its first place -/
def once : List Str → List Str → List Str
  | acc, [] => acc
  | acc, x :: r => once (if acc.any (· == x) then acc else acc ++ [x]) r
theorem once_snoc : ∀ (xs acc : List Str) (x : Str), once acc (xs ++ [x]) = (if (once acc xs).any (· == x) then once acc xs else once acc xs ++ [x])
  | [], acc, x => rfl
  | y :: r, acc, x => once_snoc r _ x
theorem once_le : ∀ (xs acc : List Str), (once acc xs).length ≤ acc.length + xs.length
  | [], acc => Nat.le_refl _
  | x :: r, acc => by
    have z := once_le r (if acc.any (· == x) then acc else acc ++ [x])
    show (once (if acc.any (· == x) then acc else acc ++ [x]) r).length ≤ _
    rw [List.length_cons]
    split at z
    · rename_i c
      rw [if_pos c]
      omega
    · rename_i c
      rw [if_neg c]
      rw [List.length_append, List.length_cons, List.length_nil] at z
      omega
theorem once_any (k : Str) : ∀ (xs acc : List Str), (once acc xs).any (· == k) = (acc.any (· == k) || xs.any (· == k))
  | [], acc => by simp [once]
  | x :: r, acc => by
    show (once (if acc.any (· == x) then acc else acc ++ [x]) r).any (· == k) = _
    rw [once_any k r]
    by_cases c : acc.any (· == x) = true
    · rw [if_pos c, List.any_cons]
      by_cases e : x = k
      · subst e; rw [c]; simp
      · have n : (x == k) = false := by simpa using e
        rw [n, Bool.false_or]
    · rw [if_neg c, List.any_append, List.any_cons, List.any_cons, List.any_nil, Bool.or_false, Bool.or_assoc]
theorem once_nodup : ∀ (xs acc : List Str), xs.Nodup → (∀ x ∈ xs, x ∉ acc) → once acc xs = acc ++ xs
  | [], acc, _, _ => (List.append_nil acc).symm
  | x :: r, acc, nd, no => by
    rw [List.nodup_cons] at nd
    have c : ¬ acc.any (· == x) = true := fun z => by
      obtain ⟨y, hy, e⟩ := List.any_eq_true.mp z
      exact no x List.mem_cons_self (by rw [← eq_of_beq e]; exact hy)
    show once (if acc.any (· == x) then acc else acc ++ [x]) r = _
    rw [if_neg c, once_nodup r (acc ++ [x]) nd.2 (fun y hy z => ?_), List.append_assoc]
    · rfl
    · rcases List.mem_append.mp z with z | z
      · exact no y (List.mem_cons_of_mem _ hy) z
      · rw [List.mem_singleton.mp z] at hy
        exact nd.1 hy
section
variable {prog : Program} {w : World} {A : Around} {R : Result → Shared → Prop} {I : Addr} {fp wr : List Addr} {G : Array GenState → Array GenState → Prop} {n : Nat} {P : Nat → Value → Prop} {St : Nat → Shared → Prop}
abbrev SetAt (prog : Program) (w : World) (h : Heap) (S : Addr) (xs : List Str) : Prop := h.SetOf (PySem.strKind prog w) S (fun k' => (once [] xs).any (· == k')) (once [] xs).length
theorem loopOnce (W : WalksS prog w A.in1 I fp wr G n P St) (S : Addr) (apart : S ∉ fp) (xs : List Str) (len : xs.length = n) (few : n + 1 < scanBound) (val : ∀ i v, P i v → ∃ t, v = .str (xs.getD i Str.empty) t) :
    ∀ (m i : Nat) (s : Shared), m + i = n → St i s → SetAt prog w s.heap S (xs.take i) → (∀ s', Moved (S :: wr) G s s' → SetAt prog w s'.heap S xs → R (.ok (.ret .none)) s') →
      codeAny (model prog w) A (.builtin "set.update.loop" ⟨[.ref S, .ref I], []⟩) R s := by
  have Sw : S ∉ wr := fun h => apart (W.sub _ h)
  have up : ∀ b ∈ wr, b ∈ S :: wr := fun b => List.mem_cons_of_mem _
  intro m
  induction m with
  | zero =>
    intro i s e st sa fin
    obtain rfl : i = n := by omega
    refine codeAny_builtin PyProof.Rows.F.entry_set_update_loop ?_
    rw [Around.under_plainId PyProof.Rows.F.plain_set_update_loop _]
    show wpAny _ A.in1 (pyNext (.ref I) >>= _) _ _ s
    refine wpAny_bind (W.done s _ _ st fun s' mv => ?_)
    rw [← len, List.take_length] at sa
    show wpAny _ A.in1 (ret Value.none) _ _ s'
    refine wpAny_pure (fin s' (mv.mono up) ?_)
    obtain ⟨o, es, ep, t, g, rest⟩ := sa
    exact ⟨o, es, ep, t, mv.heap S _ Sw g, rest⟩
  | succ m ih =>
    intro i s e st sa fin
    have lt : i < n := by omega
    refine codeAny_builtin PyProof.Rows.F.entry_set_update_loop ?_
    rw [Around.under_plainId PyProof.Rows.F.plain_set_update_loop _]
    show wpAny _ A.in1 (pyNext (.ref I) >>= _) _ _ s
    refine wpAny_bind (W.item i s _ _ lt st fun v s' hv st' mv => ?_)
    obtain ⟨t, rfl⟩ := val i v hv
    have lx : i < xs.length := len ▸ lt
    have ex : xs.getD i Str.empty = xs[i] := by rw [List.getD_eq_getElem?_getD, List.getElem?_eq_getElem lx]; rfl
    rw [ex]
    have sa' : SetAt prog w s'.heap S (xs.take i) := by
      obtain ⟨o, es, ep, t, g, rest⟩ := sa
      exact ⟨o, es, ep, t, mv.heap S _ Sw g, rest⟩
    have room : (once [] (xs.take i)).length + 1 < scanBound := by
      have z := once_le (xs.take i) []
      rw [List.length_take, List.length_nil] at z
      omega
    show wpAny _ A.in1 (holding [Value.str xs[i] t] (setAdd S (.str xs[i] t)) >>= _) _ _ s'
    unfold setAdd
    refine wpAny_bind (wpAny_holding (wpAny_holding (wpAny_bind ((PySem.strKind prog w).pyHash (k := xs[i]) (strKind_is _ _ _ _) ?_))))
    refine wpAny_setAddHashed_of (knd := PySem.strKind prog w) (s := { s' with toks := s'.toks + 1 }) (strKind_is _ _ _ _) rfl sa' room fun h' sb sb2 => ?_
    have next : SetAt prog w h' S (xs.take (i + 1)) := by
      have et : xs.take (i + 1) = xs.take i ++ [xs[i]] := by rw [List.take_add_one, List.getElem?_eq_getElem lx]; rfl
      refine SetOf_congr sb2 (fun k' => ?_) ?_
      · rw [once_any, once_any, et, List.any_append]
        simp only [List.any_cons, List.any_nil, Bool.or_false, Bool.false_or]
        by_cases c : k' = xs[i]
        · rw [decide_eq_true c, ← c, beq_self_eq_true]
        · have n1 : (xs[i] == k') = false := by simpa using fun z : xs[i] = k' => c z.symm
          rw [decide_eq_false c, n1]
      · rw [et, once_snoc]
        split <;> simp
    refine wpAny_pure ⟨plainId_quiet PyProof.Rows.F.plain_set_update_loop _, ih (i + 1) _ (by omega) (W.frame _ s' _ _ st' (Nat.le_succ _) fun b hb o e => ?_) next fun s2 mv2 last => fin s2 (Moved.trans W.gtrans ((mv.mono up).then_heap (Nat.le_succ _) fun b o hb e => ?_) mv2) last⟩
    · exact (sb.2 b (fun z : b = S => apart (by rw [← z]; exact hb))).trans e
    · exact (sb.2 b (fun z : b = S => hb (by rw [z]; exact List.mem_cons_self))).trans e
end
section
variable {prog : Program} {w : World} {A : Around} {E : Value → Shared → Prop} {s : Shared}
abbrev bareSet (led : Bool) : Obj := { cls := .type "set", dict := none, data := .set #[] 0 (.fresh 0 0 led) }
/-- what the new set is filled with, the iterator just laid -/
theorem fill {l : Addr} {items : Array Value} {xs : List Str} {led : Bool} {o : Obj} {P : Nat → Value → Prop} {St : Nat → Shared → Prop} {G : Array GenState → Array GenState → Prop} {R : Result → Shared → Prop} {tk : Nat}
    (W : WalksS prog w A.in1 (s.heap.objs.size + 1) [s.heap.objs.size + 1, l] [s.heap.objs.size + 1] G items.size P St) (lt : l < s.heap.objs.size) (len : xs.length = items.size) (few : items.size + 1 < scanBound) (val : ∀ i v, P i v → ∃ t, v = .str (xs.getD i Str.empty) t)
    (st : St 0 { s with heap := (s.heap.push (bareSet led)).push o, toks := tk })
    (fin : ∀ s', Moved [s.heap.objs.size, s.heap.objs.size + 1] G { s with heap := (s.heap.push (bareSet led)).push o, toks := tk } s' → SetAt prog w s'.heap s.heap.objs.size xs → R (.ok (.ret .none)) s') :
    codeAny (model prog w) A (.builtin "set.update.loop" ⟨[.ref s.heap.objs.size, .ref (s.heap.objs.size + 1)], []⟩) R { s with heap := (s.heap.push (bareSet led)).push o, toks := tk } := by
  have g : ((s.heap.push (bareSet led)).push o).get? s.heap.objs.size = some (bareSet led) := Heap.get?_push_of_some _ (Heap.get?_push_size _ rfl)
  refine loopOnce W s.heap.objs.size ?_ xs len few val items.size 0 _ rfl st ?_ fin
  · intro z
    rcases List.mem_cons.mp z with z | z
    · exact Nat.ne_of_lt (Nat.lt_succ_self _) z
    · exact Nat.ne_of_gt lt (List.mem_singleton.mp z)
  · exact SetOf_congr ((PyProof.Rows.setObjOf_fresh (knd := PySem.strKind prog w) led).setOf g (by unfold scanBound; omega)) (fun _ => rfl) rfl
set_option maxHeartbeats 3200000 in
theorem call_setS {l : Addr} {items : Array Value} {xs : List Str} {Q : Value → Shared → Prop} (hh : A.handled = none) (hl : s.heap.IsList l items ∨ s.heap.IsTuple l items) (hi : PyProof.Rows.StrsAre items.toList xs) (few : xs.length + 1 < scanBound)
    (h : ∀ (h' : Heap) (tk : Nat), SetAt prog w h' s.heap.objs.size xs → (∀ b o, b < s.heap.objs.size → s.heap.get? b = some o → h'.get? b = some o) → Q (.ref s.heap.objs.size) { s with heap := h', toks := tk }) :
    wpAny (model prog w) A (call (.type "set") [.ref l]) Q E s := by
  obtain ⟨_, _, mro⟩ := PySem.F.called_set.mro
  have made := PySem.F.called_set.made
  have sub := PySem.F.called_set.sub
  refine wpAny_call (codeAny_of_tree ?_)
  show wpAny _ _ (callAny (.type "set") _) _ _ _
  refine wpAny_pure ⟨Code.quiet_builtin _ (by decide +kernel), codeAny_builtin PySem.F.entry_type_call ?_⟩
  rw [Around.under_plain (weight_type_call_type "set" [.ref l] []) rfl]
  have c1 := PySem.F.called_set.notType
  have c2 := PySem.F.called_set.canCreate
  have c3 := PySem.F.typeCall_set_1 (.ref l)
  repeat (any_goals (first | wp_step | assumption))
  refine codeAny_mono (code_set_new_1 (.ref l) (E := E) (Q₁ := fun obj sA => ∃ led : Bool, obj = .ref s.heap.objs.size ∧ sA = { s with heap := s.heap.push (bareSet led) }) fun led => ⟨led, rfl, rfl⟩) fun r sA hr => ?_
  cases r with
  | error e => exact hr
  | ok fl =>
    cases fl with
    | next => exact hr.elim
    | brk => exact hr.elim
    | cont => exact hr.elim
    | ret obj =>
      obtain ⟨led, rfl, rfl⟩ := hr
      have gS : (s.heap.push (bareSet led)).get? s.heap.objs.size = some (bareSet led) := Heap.get?_push_size _ rfl
      have tS : Shared.TypeIs { s with heap := s.heap.push (bareSet led) } (.ref s.heap.objs.size) "set" := ⟨_, gS, rfl⟩
      have i1 := PySem.F.called_set.init.lookup
      have i2 := PySem.F.called_set.init.bind (.ref s.heap.objs.size)
      repeat (any_goals (first | wp_step | assumption))
      refine codeAny_mono (codeAny_call_builtin (R := wants (fun r sB => r = .none ∧ ∃ h' tk, sB = { s with heap := h', toks := tk } ∧ SetAt prog w h' s.heap.objs.size xs ∧ (∀ b o, b < s.heap.objs.size → s.heap.get? b = some o → h'.get? b = some o)) E) PySem.F.called_set.init.plain PySem.F.entry_set_init (check_set_init_1 tS ?_)) fun r2 sB hr2 => ?_
      · have len : xs.length = items.size := by rw [← StrsAre.len_eq hi, Array.length_toList]
        have few' : items.size + 1 < scanBound := by rw [← len]; exact few
        have hh3 : A.in1.in1.in1.handled = none := by simp [hh]
        have sz1 : (s.heap.push (bareSet led)).objs.size = s.heap.objs.size + 1 := Heap.size_push ..
        have val : ∀ (i : Nat) (v : Value), items[i]? = some v → ∃ t, v = .str (xs.getD i Str.empty) t := fun i v hv => SS.strs_at hi i v (by rw [Array.getElem?_toList]; exact hv)
        have last : ∀ {G : Array GenState → Array GenState → Prop} {o : Obj} {s' : Shared}, (∀ a b, G a b → b = a) → Moved [s.heap.objs.size, s.heap.objs.size + 1] G { s with heap := (s.heap.push (bareSet led)).push o } s' → SetAt prog w s'.heap s.heap.objs.size xs →
            ∃ h' tk, s' = { s with heap := h', toks := tk } ∧ SetAt prog w h' s.heap.objs.size xs ∧ (∀ b o, b < s.heap.objs.size → s.heap.get? b = some o → h'.get? b = some o) := by
          intro G o s' hG mv sa
          obtain ⟨h2, g2, d2, t2, o2⟩ := s'
          obtain rfl : g2 = s.gens := hG _ _ mv.gens
          obtain rfl : d2 = s.drawn := mv.drawn
          obtain rfl : o2 = s.os := mv.os
          refine ⟨h2, t2, rfl, sa, fun b ob hb e => mv.heap b ob (fun z => ?_) (Heap.get?_push_of_some _ (Heap.get?_push_of_some _ e))⟩
          rcases List.mem_cons.mp z with z | z
          · exact Nat.ne_of_lt hb z
          · exact Nat.ne_of_lt (Nat.lt_succ_of_lt hb) (List.mem_singleton.mp z)
        unfold Builtin.«set.__init__» noKeywords Builtin.Frozenset.updateFrom
        rcases hl with hl | hl
        · obtain ⟨⟨oc, od, oa, os⟩, hol, hc, nl, hd⟩ := hl
          simp only at hc hd
          subst hc hd
          have below : l < s.heap.objs.size := Heap.lt_size hol
          have hol2 : (s.heap.push (bareSet led)).get? l = some { cls := .type "list", dict := od, data := .seq items nl, slots := os } := Heap.get?_push_of_some _ hol
          have s1 := PySem.F.sub_list_set
          have s2 := PySem.F.sub_list_frozenset
          have nd : (Value.type "list" == Value.type "dict") = false := by decide
          have hl1 : (s.heap.push (bareSet led)).IsList l items := ⟨_, hol2, rfl, nl, rfl⟩
          generalize hPI : pyIter = PI
          wp_walk
          subst hPI
          refine wpAny_pyIter_list hl1 (wpAny_bind (wpAny_runValue ?_))
          have nI : l ≠ s.heap.objs.size + 1 := Nat.ne_of_lt (Nat.lt_succ_of_lt below)
          rw [sz1]
          refine fill (s := s) ((Walks.list hh3 _ l nI items).toS) below len few' val ⟨⟨_, by rw [← sz1]; exact Heap.get?_push_size _ rfl, rfl, rfl⟩, hl1.push _⟩ fun s' mv sa => ?_
          show wpAny _ _ _ _ _ _
          obtain ⟨h', tk, rfl, r1, r2⟩ := last (fun _ _ z => z) mv sa
          refine wpAny_pure ?_
          show wpAny _ _ (ret Value.none) _ _ _
          exact wpAny_pure ⟨rfl, h', tk, rfl, r1, r2⟩
        · obtain ⟨⟨oc, od, oa, os⟩, hol, hc, nl, hd⟩ := hl
          simp only at hc hd
          subst hc hd
          have below : l < s.heap.objs.size := Heap.lt_size hol
          have hol2 : (s.heap.push (bareSet led)).get? l = some { cls := .type "tuple", dict := od, data := .seq items nl, slots := os } := Heap.get?_push_of_some _ hol
          have s1 := PySem.F.sub_tuple_set
          have s2 := PySem.F.sub_tuple_frozenset
          have nd : (Value.type "tuple" == Value.type "dict") = false := by decide
          have hl1 : (s.heap.push (bareSet led)).IsTuple l items := ⟨_, hol2, rfl, nl, rfl⟩
          generalize hPI : pyIter = PI
          wp_walk
          subst hPI
          refine wpAny_pyIter_tuple hl1 (wpAny_bind (wpAny_runValue ?_))
          have nI : l ≠ s.heap.objs.size + 1 := Nat.ne_of_lt (Nat.lt_succ_of_lt below)
          rw [sz1]
          refine fill (s := s) ((Walks.tuple hh3 _ l nI items).toS) below len few' val ⟨⟨_, by rw [← sz1]; exact Heap.get?_push_size _ rfl, rfl, rfl⟩, hl1.push _⟩ fun s' mv sa => ?_
          show wpAny _ _ _ _ _ _
          obtain ⟨h', tk, rfl, r1, r2⟩ := last (fun _ _ z => z) mv sa
          refine wpAny_pure ?_
          show wpAny _ _ (ret Value.none) _ _ _
          exact wpAny_pure ⟨rfl, h', tk, rfl, r1, r2⟩
      · cases r2 with
        | error e => exact hr2
        | ok fl2 =>
          cases fl2 with
          | next => exact hr2.elim
          | brk => exact hr2.elim
          | cont => exact hr2.elim
          | ret r =>
            obtain ⟨rfl, h', tk, rfl, r1, r2⟩ := hr2
            repeat (any_goals (first | wp_step | assumption))
            exact h _ _ r1 r2
end
section
variable {X : Cx}
/-- len(set(xs)) of a list or a tuple of texts -/
def tLenSetS (K : PySem.W.Frag) (ta : TE) : TE := fun σ H Q => ta σ H fun x H1 => ∃ (l : Addr) (xs : List Str), x = .ref l ∧ Sq K H1 l (xs.map V.str) ∧ xs.length ≤ 1000 ∧ Q (.int ((once [] xs).length : Nat)) H1
theorem pe_lenSetS {a : Expr} {ta : TE} {p p2 q pos : Pos} (calm : X.calm = true) (hg : Gl X "len") (hm : X.mg "len" = none) (hg2 : Gl X "set") (hm2 : X.mg "set" = none) (ha : PE X a ta)
    (na : starEach [a] X.env = (false, eval a X.env) :: starEach [] X.env := by rfl) : PE X (.Call (.Name "len" p) [.Call (.Name "set" p2) [a] [] q] [] pos) (tLenSetS X.K ta) := by
  refine ⟨fun pins s σ H Q I h => ?_⟩
  refine Call_ (ld_blt I hg hm boot_len (PyProof.Rows.callWith_builtin1 (PyProof.Rows.args_cons ?_ rfl) rfl rfl))
  refine Call_ (ld_blt I hg2 hm2 boot_set (PyProof.Rows.callWith_type1 (PyProof.Rows.args_cons (thn (ha.run pins s σ H _ I h) fun v sA hA => PyProof.Rows.args_nil ?_) na) na rfl))
  obtain ⟨x, H1, I1, r1, l, xs, rfl, hq, few, k⟩ := hA
  cases (show v = Value.ref l from r1)
  have fin : ∀ (items : Array Value), (sA.heap.IsList l items ∨ sA.heap.IsTuple l items) → PyProof.Rows.StrsAre items.toList xs → wpAny (model X.prog X.w) X.A (call (.type "set") [.ref l]) (fun v s' => wpAny (model X.prog X.w) X.A (spliced (backTo pos (starEach [] X.env))) (fun vs s₂ => wpAny (model X.prog X.w) X.A (call (.builtin "len") (v :: vs)) (EP X pins σ Q) X.xe s₂) X.xe s') X.xe sA := by
    intro items hl hi
    refine call_setS (I1.ok.hd calm) hl hi (by unfold scanBound; omega) fun h' tk hS hk => PyProof.Rows.args_nil ?_
    have small := once_le xs []
    obtain ⟨o, es, ep, t, g, ex, dat, _, _, _, hf, hn⟩ := hS
    have I2 : Inv X pins σ H1 { sA with heap := h', toks := tk } := I1.kept fun b o e => hk b o (Heap.lt_size e) e
    rw [List.length_nil] at small
    exact call_len_set g ex dat hf (by rw [hn]; omega) ⟨.int _, H1, I2.tok _, ⟨_, by rw [hn]⟩, k⟩
  rcases hq with hq | hq
  · obtain ⟨its, r, pl, _⟩ := I1.tuple hq
    exact fin its.toArray (.inr pl) (by simpa using strsAre_of r)
  · obtain ⟨its, r, pl, _⟩ := I1.list hq
    exact fin its.toArray (.inl pl.isList) (by simpa using strsAre_of r)
end
end L2.RV
set_option Elab.async false
set_option linter.all false
set_option maxRecDepth 100000
set_option maxHeartbeats 4000000
/-! Comprehensions over a list or a tuple whose parts leave the heap as it is. -/
namespace L2.RV
open PySem PySem.Spec PyProof.Rows
theorem len_sq {K : PySem.W.Frag} {H : Hp} {p : Addr} {xs : List V} (q : Sq K H p xs) : LenV K (.ref p) H xs.length := by
  rcases q with q | q
  · exact .inr ⟨xs, q, rfl⟩
  · exact .inl ⟨xs, q, rfl⟩
theorem ix_sq {K : PySem.W.Frag} {H : Hp} {p : Addr} {xs : List V} {i : Int} {v : V} {Q : VK} (q : Sq K H p xs) (e : atI xs i = some v) (k : Q v H) : rIx K (.ref p) (.int i) H Q := by
  rcases q with q | q
  · exact .inr (.inl ⟨p, xs, i, v, rfl, rfl, q, e, k⟩)
  · exact .inl ⟨p, xs, i, v, rfl, rfl, q, e, k⟩
theorem dec_nat (a b : Nat) : decide (V.int (a : Int) = V.int (b : Int)) = decide (a = b) := by
  by_cases e : a = b
  · subst e; simp
  · rw [decide_eq_false e, decide_eq_false]
    intro z
    injection z with z
    omega
theorem filt_all {α : Type} (xs : List α) : xs.filter (fun _ => true) = xs := List.filter_eq_self.mpr fun _ _ => rfl
theorem wipe_set1 (σ : L2.St) (j : Nat) (v : Option V) : wipe ((wipe σ [j]).set j v) [j] = wipe σ [j] := by
  show ((σ.set j none).set j v).set j none = σ.set j none
  rw [List.set_set, List.set_set]
theorem take_snoc {α : Type} {xs : List α} {i : Nat} {x : α} (h : xs[i]? = some x) : xs.take (i + 1) = xs.take i ++ [x] := by
  rw [List.take_add_one, h]
  rfl
theorem upd_upd {H : Hp} {D : Addr} {u v : HO} : upd (upd H D u) D v = upd H D v := by
  funext b
  by_cases e : b = D
  · subst e
    rw [upd_same, upd_same]
  · rw [upd_ne e, upd_ne e, upd_ne e]
/-- [f(x) for x in xs if p(x)] -/
theorem lc_pure {K : PySem.W.Frag} {ti te : TE} {tt : TT} {j : Nat} {σ : L2.St} {H : Hp} {Q : VK} {a : Addr} {xs : List V} (p : V → Bool) (f : V → V) (hq : Sq K H a xs) (small : xs.length ≤ sizeLine) (hi : ∀ R : V → Hp → Prop, R (.ref a) H → ti σ H R)
    (ht : ∀ x, x ∈ xs → ∀ (H1 : Hp) (Q' : Bool → Hp → Prop), Same H H1 → Q' (p x) H1 → tt ((wipe σ [j]).set j (some x)) H1 Q')
    (he : ∀ x, x ∈ xs → p x = true → ∀ (H1 : Hp) (Q' : VK), Same H H1 → Q' (f x) H1 → te ((wipe σ [j]).set j (some x)) H1 Q')
    (k : ∀ D, H D = none → Q (.ref D) (upd H D (.lst ((xs.filter p).map f)))) {vs : List Nat} (evs : vs = [j] := by rfl) : tLc (iSq K ti) (gName j) tt te vs σ H Q := by
  subst evs
  refine hi _ ⟨a, xs, rfl, hq, fun J wk D hD => ?_⟩
  refine lc_it wk (fun i H' => H' = upd H D (.lst (((xs.take i).filter p).map f))) rfl (fun i H' _ e => ?_) (fun i x H1 H2 lt e y => ?_) (fun H' e => ?_)
  · rw [e]
    exact .of_same (same_new hD)
  · subst e
    obtain ⟨rfl, hx⟩ := y
    have mem := List.mem_of_getElem? hx
    refine ⟨wipe_set1 σ j _, ht x mem _ _ (same_new hD) ?_⟩
    rw [take_snoc hx, List.filter_append, List.map_append]
    cases c : p x with
    | false =>
      rw [if_neg (by decide)]
      have e : [x].filter p = [] := by simp [c]
      rw [e, List.map_nil, List.append_nil]
    | true =>
      rw [if_pos rfl]
      refine he x mem c _ _ (same_new hD) ⟨_, upd_same, ?_, ?_⟩
      · rw [List.length_map]
        have z := List.length_filter_le p (xs.take i)
        rw [List.length_take] at z
        omega
      · have e : [x].filter p = [x] := by simp [c]
        rw [upd_upd, e]
        rfl
  · rw [e, List.take_length]
    exact k D hD
/-- the tuples at bs are these keys -/
def Keyed (H : Hp) (bs : List Addr) (ks : List (List L2.Key)) : Prop := bs.length = ks.length ∧ ∀ (i : Nat) (b : Addr) (k : List L2.Key), bs[i]? = some b → ks[i]? = some k → H b = some (.tup (k.map kV))
theorem Keyed.same {H H' : Hp} {bs : List Addr} {ks : List (List L2.Key)} (z : Keyed H bs ks) (s : Same H H') : Keyed H' bs ks := ⟨z.1, fun i b k hb hk => s _ _ (z.2 i b k hb hk)⟩
theorem mergeT_snoc (acc more : List (List L2.Key × V)) (kv : List L2.Key × V) : mergeT acc (more ++ [kv]) = putK (mergeT acc more) kv.1 kv.2 := by
  unfold mergeT
  rw [List.foldl_append]
  rfl
theorem mergeT_new : ∀ (more acc : List (List L2.Key × V)), (more.map (·.1)).Nodup → (∀ kv ∈ more, ∀ kw ∈ acc, kw.1 ≠ kv.1) → mergeT acc more = acc ++ more
  | [], acc, _, _ => (List.append_nil acc).symm
  | kv :: r, acc, nd, no => by
    rw [List.map_cons, List.nodup_cons] at nd
    have e : putK acc kv.1 kv.2 = acc ++ [kv] := by
      refine putK_new kv.2 ?_
      cases c : valV acc kv.1 with
      | none => rfl
      | some v =>
        unfold valV at c
        obtain ⟨pr, hf, _⟩ := Option.map_eq_some_iff.mp c
        have same := List.find?_some hf
        exact absurd (by simpa using same) (no kv List.mem_cons_self pr (List.mem_of_find?_eq_some hf))
    show mergeT (putK acc kv.1 kv.2) r = _
    rw [e, mergeT_new r _ nd.2, List.append_assoc]
    · rfl
    · intro kw hw ku hu
      rcases List.mem_append.mp hu with z | z
      · exact no kw (List.mem_cons_of_mem _ hw) ku z
      · rw [List.mem_singleton.mp z]
        intro y
        exact nd.1 (List.mem_map.mpr ⟨kw, hw, y.symm⟩)
/-- {x: f(x) for x in xs if p(x)}, the xs tuples -/
theorem dc_pure {K : PySem.W.Frag} {ti tv : TE} {tt : TT} {j : Nat} {σ : L2.St} {H : Hp} {Q : VK} {a : Addr} {bs : List Addr} {ks : List (List L2.Key)} (p : List L2.Key → Bool) (f : List L2.Key → V) (hq : Sq K H a (bs.map V.ref)) (kd : Keyed H bs ks) (small : bs.length ≤ sizeLine) (hj : j < σ.length) (hi : ∀ R : V → Hp → Prop, R (.ref a) H → ti σ H R)
    (ht : ∀ b k, k ∈ ks → H b = some (.tup (k.map kV)) → ∀ (H1 : Hp) (Q' : Bool → Hp → Prop), Same H H1 → Q' (p k) H1 → tt ((wipe σ [j]).set j (some (.ref b))) H1 Q')
    (hv : ∀ b k, k ∈ ks → H b = some (.tup (k.map kV)) → p k = true → ∀ (H1 : Hp) (Q' : VK), Same H H1 → Q' (f k) H1 → tv ((wipe σ [j]).set j (some (.ref b))) H1 Q')
    (k : ∀ D, H D = none → Q (.ref D) (upd H D (.dT (mergeT [] ((ks.filter p).map fun k => (k, f k)))))) {vs : List Nat} (evs : vs = [j] := by rfl) : tDcT (iSq K ti) (gName j) tt (tVar j) tv vs σ H Q := by
  subst evs
  refine hi _ ⟨a, bs.map V.ref, rfl, hq, fun J wk D hD => ?_⟩
  refine dcT_it wk (fun i H' => H' = upd H D (.dT (mergeT [] (((ks.take i).filter p).map fun k => (k, f k))))) rfl (fun i H' _ e => ?_) (fun i x H1 H2 lt e y => ?_) (fun H' e => ?_)
  · rw [e]
    exact .of_same (same_new hD)
  · subst e
    obtain ⟨rfl, hx⟩ := y
    obtain ⟨b, hb, rfl⟩ : ∃ b, bs[i]? = some b ∧ V.ref b = x := by
      rw [List.getElem?_map] at hx
      exact Option.map_eq_some_iff.mp hx
    have lb := (List.getElem?_eq_some_iff.mp hb).1
    have lk : i < ks.length := kd.1 ▸ lb
    have hk : ks[i]? = some ks[i] := List.getElem?_eq_getElem lk
    have hbk := kd.2 i b _ hb hk
    have mem : ks[i] ∈ ks := List.getElem_mem lk
    have lw : j < (wipe σ [j]).length := by rw [wipe_length]; exact hj
    refine ⟨wipe_set1 σ j _, ht b _ mem hbk _ _ (same_new hD) ?_⟩
    rw [take_snoc hk, List.filter_append, List.map_append]
    cases c : p ks[i] with
    | false =>
      rw [if_neg (by decide)]
      have e : [ks[i]].filter p = [] := by simp [c]
      rw [e, List.map_nil, List.append_nil]
    | true =>
      rw [if_pos rfl]
      refine ⟨.ref b, List.getElem?_set_self lw, hv b _ mem hbk c _ _ (same_new hD) ⟨_, DPut.t upd_same (same_new hD _ _ hbk) ?_, ?_⟩⟩
      · have z := length_mergeT (((ks.take i).filter p).map fun k => (k, f k)) []
        have y := List.length_filter_le p (ks.take i)
        rw [List.length_take] at y
        rw [List.length_map, List.length_nil] at z
        omega
      · have e : [ks[i]].filter p = [ks[i]] := by simp [c]
        rw [upd_upd, e]
        show _ = upd H D (.dT (mergeT [] (_ ++ [(ks[i], f ks[i])])))
        rw [mergeT_snoc]
  · have e2 : (bs.map V.ref).length = ks.length := by rw [List.length_map]; exact kd.1
    rw [e, e2, List.take_length]
    exact k D hD
end L2.RV
set_option Elab.async false
set_option linter.all false
set_option maxRecDepth 100000
/-! One layer of a transformer taken off, so that the next one stands at the head (with_reducible refine). -/
namespace L2.RV
open PySem PySem.Spec PyProof.Rows
section
variable {a b rest : L2.TS} {D : Ends} {σ σ' : L2.St} {H : Hp} {Q : VK} {ta tb te : TE} {t u : TT} {B : Bool → Hp → Prop} {r : List V → Hp → VK → Prop} {r2 : R2} {S : L2.St → Hp → Prop}
theorem yesU {A B : Hp → Prop} (h : A H) : tYes σ H fun b H3 => if b = true then A H3 else B H3 := by
  show if true = true then A H else B H
  rw [if_pos rfl]
  exact h
theorem seqU (h : a { D with nx := b D } σ H) : tSeq a b D σ H := h
theorem nxU {f : L2.St → Hp → Prop} {rt : VK} {bk ct : L2.St → Hp → Prop} (h : f σ H) : tNext { nx := f, rt := rt, bk := bk, ct := ct } σ H := h
theorem retU (h : te σ H fun v H' => D.rt v H') : tRet te D σ H := h
theorem ifU (h : t σ H fun c H1 => if c = true then a D σ H1 else b D σ H1) : tIfS t a b D σ H := h
theorem setU {i : Nat} (h : te σ H fun v H1 => D.nx (σ.set i (some v)) H1) : tAsg te (gName i) D σ H := h
theorem setsU {i : Nat} (h : te σ H fun v H1 => rest D (σ.set i (some v)) H1) : tSeq (tAsg te (gName i)) rest D σ H := h
theorem andvU (h : ta σ H fun x H1 => ∃ c, x = .bl c ∧ if c = true then tb σ H1 Q else Q (.bl false) H1) : tAndV ta tb σ H Q := h
theorem orvU (h : ta σ H fun x H1 => ∃ c, x = .bl c ∧ if c = true then Q (.bl true) H1 else tb σ H1 Q) : tOrV ta tb σ H Q := h
theorem cb1U (h : ta σ H fun v H1 => r [v] H1 Q) : tCB r (tCons ta tNil) σ H Q := h
theorem call1U {sp : Sp} {E : XK} (h : ta σ H fun v H1 => sp [v] H1 Q E) : tCall sp [] E (tCons ta tNil) σ H Q := h
theorem opU (h : ta σ H fun x H1 => tb σ H1 fun y H2 => r2 x y H2 Q) : tOp r2 ta tb σ H Q := h
theorem testU (h : te σ H fun x H' => ∃ k, x = .bl k ∧ B k H') : tTest te σ H B := h
theorem bU (h : te σ H fun x H1 => ∃ c, x = .bl c ∧ B c H1) : tB te σ H B := h
theorem torU (h : t σ H fun c H1 => if c = true then B true H1 else u σ H1 B) : tOr t u σ H B := h
theorem tandU (h : t σ H fun c H1 => if c = true then u σ H1 B else B false H1) : tAnd t u σ H B := h
theorem tnotU (h : t σ H fun c H1 => B (!c) H1) : tNot t σ H B := h
theorem lockU {d : Addr} {ob : HO} (e : H d = some ob) (m : Mut (some ob)) (h : ∀ od, te σ (upd H d (.frz od ob)) fun v H' => H' d = some (.frz od ob) ∧ Q v (upd H' d ob)) : tLockE te σ H Q := ⟨d, ob, e, m, h⟩
theorem stU {p : L2.St → Prop} (e : σ = σ') (h : p σ') : p σ := e ▸ h
theorem fldU {K : PySem.W.Frag} {f : Str} (h : ta σ H fun x H1 => ∃ a C dx fs v, x = .ref a ∧ H1 a = some (.ins C dx fs) ∧ Cls K C ∧ NoAttr K C f ∧ fs.lookup f = some v ∧ Q v H1) : tFld K ta f σ H Q := h
theorem sfldU {K : PySem.W.Frag} {f : Str} {tv : TE} (h : tv σ H fun y H1 => ta σ H1 fun x H2 => ∃ a C dx fs, x = .ref a ∧ H2 a = some (.ins C dx fs) ∧ Cls K C ∧ NoAttr K C f ∧ fs.length < 1000 ∧ D.nx σ (upd H2 a (.ins C dx (putF f y fs)))) : sFld K ta tv f D σ H := h
theorem sfldsU {K : PySem.W.Frag} {f : Str} {tv : TE} (h : tv σ H fun y H1 => ta σ H1 fun x H2 => ∃ a C dx fs, x = .ref a ∧ H2 a = some (.ins C dx fs) ∧ Cls K C ∧ NoAttr K C f ∧ fs.length < 1000 ∧ rest D σ (upd H2 a (.ins C dx (putF f y fs)))) : tSeq (sFld K ta tv f) rest D σ H := h
theorem exprsU (h : te σ H fun _ H1 => rest D σ H1) : tSeq (tDrop te) rest D σ H := h
end
end L2.RV
set_option Elab.async false
set_option linter.all false
set_option maxRecDepth 100000
set_option maxHeartbeats 4000000
/-! Keys of shapes. -/
namespace L2.K19
open PySem PySem.Spec PyProof.Rows L2.RV
/-- are_keys(value), of texts -/
def areKeys (xs : List Str) : Bool := decide (1 ≤ (xs.length : Int)) && (decide ((xs.length : Int) ≤ 6) && (xs.all isName && decide ((once [] xs).length = xs.length)))
def spAreKeys (K : PySem.W.Frag) : Sp := fun vs H Q _ => ∃ a xs, vs = [.ref a] ∧ Sq K H a (xs.map V.str) ∧ xs.length ≤ 1000 ∧ (∀ x ∈ xs, x.length ≤ sizeLine) ∧ ∀ H', Same H H' → Q (.bl (areKeys xs)) H'
theorem sq_ty {K : PySem.W.Frag} {H : Hp} {a : Addr} {xs : List V} (q : Sq K H a xs) : ∃ n, TyX K H (.ref a) (.type n) ∧ PySem.W.kitAny K (.type n) [.type "list", .type "tuple"] = some true := by
  have kt : PySem.W.kitAny K (.type "tuple") [.type "list", .type "tuple"] = some true := by
    have e1 : PySem.W.kitOne K (.type "tuple") (.type "list") = some false := kit_ty (by decide +kernel : kitB "tuple" "list" = some false)
    have e2 : PySem.W.kitOne K (.type "tuple") (.type "tuple") = some true := kit_ty (by decide +kernel : kitB "tuple" "tuple" = some true)
    unfold PySem.W.kitAny
    rw [e1]
    unfold PySem.W.kitAny
    rw [e2]
  have kl : PySem.W.kitAny K (.type "list") [.type "list", .type "tuple"] = some true := by
    have e1 : PySem.W.kitOne K (.type "list") (.type "list") = some true := kit_ty (by decide +kernel : kitB "list" "list" = some true)
    unfold PySem.W.kitAny
    rw [e1]
  rcases q with q | q
  · rcases q with (e | ⟨o, e⟩) | ⟨o, its, n, e, c, _⟩
    · exact ⟨"tuple", .base (.tup e), kt⟩
    · exact ⟨"tuple", .fTuple e, kt⟩
    · exact ⟨"tuple", .kTuple e c, kt⟩
  · rcases q with (e | ⟨o, e⟩) | ⟨o, its, n, e, c, _⟩
    · exact ⟨"list", .base (.lst e), kl⟩
    · exact ⟨"list", .base (.frz e), kl⟩
    · exact ⟨"list", .kList e c, kl⟩
section
variable {P : Program} {w : World} {K : PySem.W.Frag} {mg : Str → Option Value} {base : Heap} {fd : FuncData}
theorem ok_are_keys (T : Top w K mg) (D_is_name : Def P w K mg base "is_name" 1 ["value"] spName) (F : Fn K "are_keys" s_are_keys fd) : FnOk P w K mg base CX0 2 (He.ga K "are_keys") fd ["value"] (spAreKeys K) := by
  refine F.ok sc_are_keys (fun vs H Q E h => ?_) (fun cdv A outer s H vs Q E hr h => ?_)
  · obtain ⟨a, xs, rfl, _⟩ := h
    rfl
  · obtain ⟨a, xs, rfl, q, few, short, k⟩ := h
    have hu := hr.units
    refine ⟨_, PSs.nox (pss_cons (ps_if (PW.pt (pw_or (pt_not (pt_val (pe_callB call_isiT rfl T.n_isinstance (by decide +kernel) (pa_cons (pv 0) (pa_cons (pe_tup (pa_cons (pe_bltn (v := .ty "list") (u := .type "list") rfl T.n_list (by decide +kernel) rfl) (pa_cons (pe_bltn (v := .ty "tuple") (u := .type "tuple") rfl T.n_tuple (by decide +kernel) rfl) pa_nil))) pa_nil))))) (pw_or1 (pt_not (pt_chain op_le op_le pe_int (pe_callB (call_lenK (K := K) rfl) rfl T.n_len (by decide +kernel) (pa_cons (pv 0) pa_nil)) (pe_globE rfl T.i_MOST_KEYS)))))) (pss_one (ps_ret pe_bl)) pss_nil)
      (pss_one (ps_ret (pe_and (pe_callB (cr_all rfl) rfl T.n_all (by decide +kernel) (pa_cons (pe_lc (own := [("key", 1)]) (g := gName 1) (tt := tYes) (by rfl) sc_are_keys.nd (pi_sqK (K := K) rfl (pv 0)) (blkOk_by (own := [("key", 1)]) (N := ["value", "key"]) (sc := defScope s_are_keys) (by decide +kernel)) (fun _ _ _ _ _ => by exact (pg_name (i := 1) sc_are_keys.nd rfl (by first | exact Or.inl rfl | exact Or.inr rfl))) (fun _ _ _ _ _ => by exact pts_nil) (fun _ _ _ _ _ => by exact (pe_callD D_is_name (hr.mono (by decide)) rfl (pa_cons (pv 1) pa_nil)))) pa_nil)) (pe_one (pe_cmpR (op_sameK (K := K) rfl hu) (pe_lenSetS rfl rfl T.n_len rfl T.n_set (pv 0)) (pe_callB (call_lenK (K := K) rfl) rfl T.n_len (by decide +kernel) (pa_cons (pv 0) pa_nil)) (nomark _))))))), ?_⟩
    refine ⟨_, rfl, (by decide : (2 : Nat) ≤ sizeLine), fun tp ntp => ?_⟩
    have s1 := same_new (o := .tup [.ty "list", .ty "tuple"]) ntp
    have q1 := q.keep (SqKeep.of_same s1)
    obtain ⟨n, ty, kt⟩ := sq_ty q1
    refine ⟨_, tp, [.ty "list", .ty "tuple"], .type n, [.type "list", .type "tuple"], true, rfl, upd_same, .cons (.ty "list") (.cons (.ty "tuple") .nil), ty, kt, _, rfl, ?_⟩
    have k1 : ∀ H', Same (upd H tp (.tup [.ty "list", .ty "tuple"])) H' → Q (.bl (areKeys xs)) H' := fun H' s => k H' (s1.trans s)
    generalize upd H tp (.tup [.ty "list", .ty "tuple"]) = H1 at q1 k1 ⊢
    clear k ty s1 q ntp
    refine (if_neg (by decide : ¬ ((!true) = true))).mpr ?_
    refine ⟨_, rfl, _, _, rfl, len_sq q1, ?_⟩
    refine ⟨_, _, rfl, rfl, _, rfl, ?_⟩
    rw [List.length_map]
    unfold areKeys at k1
    cases c1 : decide (1 ≤ (xs.length : Int)) with
    | false =>
      rw [c1] at k1
      exact ⟨_, rfl, k1 _ fun _ _ z => z⟩
    | true =>
      refine ⟨_, _, rfl, rfl, _, rfl, ?_⟩
      rw [c1, Bool.true_and] at k1
      cases c2 : decide ((xs.length : Int) ≤ 6) with
      | false =>
        rw [c2] at k1
        exact k1 _ fun _ _ z => z
      | true =>
        rw [c2, Bool.true_and] at k1
        refine (if_neg (by decide : ¬ ((!true) = true))).mpr ?_
        with_reducible refine nxU ?_
        with_reducible refine retU ?_
        with_reducible refine andvU ?_
        with_reducible refine cb1U ?_
        refine lc_pure (j := 1) (fun _ => true) (fun v => match v with | .str x => .bl (isName x) | _ => .non) q1 (by rw [List.length_map, sizeLine_eq]; omega) (fun R r => ⟨_, rfl, r⟩) (fun x hx H2 Q' s q' => q') (fun x hx _ H2 Q' s q' => ?_) fun D hD => ?_
        · obtain ⟨y, hy, rfl⟩ := List.mem_map.mp hx
          exact ⟨_, rfl, y, rfl, short y hy, q'⟩
        · have e : ((xs.map V.str).filter (fun _ => true)).map (fun v => match v with | .str x => V.bl (isName x) | _ => .non) = (xs.map isName).map V.bl := by
            rw [filt_all, List.map_map, List.map_map]
            rfl
          rw [e]
          have s2 := same_new (o := .lst ((xs.map isName).map V.bl)) hD
          have q2 := q1.keep (SqKeep.of_same s2)
          refine ⟨D, _, rfl, .inl (.inl upd_same), _, rfl, ?_⟩
          have e2 : (xs.map isName).all id = xs.all isName := by
            rw [List.all_map]
            rfl
          rw [e2]
          cases c3 : xs.all isName with
          | false =>
            rw [c3] at k1
            exact k1 _ s2
          | true =>
            rw [c3, Bool.true_and] at k1
            refine ⟨_, rfl, a, xs, rfl, q2, few, _, rfl, _, _, rfl, len_sq q2, .inl ⟨rfl, ?_⟩⟩
            rw [List.length_map, dec_nat]
            exact k1 _ s2
end
end L2.K19
set_option Elab.async false
set_option linter.all false
set_option maxRecDepth 100000
set_option maxHeartbeats 4000000
/-! [(x, y) for x in xs for y in range(d)]; {p: i for i, p in enumerate(ps)}. -/
namespace L2.RV
open PySem PySem.Spec PyProof.Rows
/-- the tuples that stand at bs -/
def Tups (H : Hp) (bs : List Addr) (vs : List (List V)) : Prop := bs.length = vs.length ∧ ∀ (i : Nat) (b : Addr) (v : List V), bs[i]? = some b → vs[i]? = some v → H b = some (.tup v)
theorem Tups.keep {H H' : Hp} {bs : List Addr} {vs : List (List V)} (z : Tups H bs vs) (s : ∀ b xs, H b = some (.tup xs) → H' b = some (.tup xs)) : Tups H' bs vs := ⟨z.1, fun i b k hb hk => s _ _ (z.2 i b k hb hk)⟩
theorem Tups.snoc {H : Hp} {bs : List Addr} {vs : List (List V)} {b : Addr} {v : List V} (z : Tups H bs vs) (e : H b = some (.tup v)) : Tups H (bs ++ [b]) (vs ++ [v]) := by
  refine ⟨by rw [List.length_append, List.length_append, z.1]; rfl, fun i c u hc hu => ?_⟩
  rcases Nat.lt_or_ge i bs.length with lt | ge
  · rw [List.getElem?_append_left lt] at hc
    rw [List.getElem?_append_left (z.1 ▸ lt)] at hu
    exact z.2 i c u hc hu
  · rw [List.getElem?_append_right ge] at hc
    rw [List.getElem?_append_right (z.1 ▸ ge)] at hu
    have i0 : i - bs.length = 0 := by
      rcases Nat.eq_zero_or_pos (i - bs.length) with y | y
      · exact y
      · rw [List.getElem?_eq_none (show [b].length ≤ i - bs.length from y)] at hc
        cases hc
    rw [i0] at hc
    have i1 : i - vs.length = 0 := by rw [← z.1]; exact i0
    rw [i1] at hu
    cases hc
    cases hu
    exact e
def pairsV (xs : List Str) (d : Nat) : List (List V) := xs.flatMap fun x => (List.range d).map fun (n : Nat) => [V.str x, V.int n]
theorem pairsV_snoc (xs : List Str) (d : Nat) (x : Str) : pairsV (xs ++ [x]) d = pairsV xs d ++ (List.range d).map fun (n : Nat) => [V.str x, V.int n] := by
  unfold pairsV
  rw [List.flatMap_append]
  simp
theorem length_pairsV : ∀ (xs : List Str) (d : Nat), (pairsV xs d).length = xs.length * d
  | [], d => by simp [pairsV]
  | x :: r, d => by
    have z := length_pairsV r d
    unfold pairsV at z ⊢
    rw [List.flatMap_cons, List.length_append, z, List.length_map, List.length_range, List.length_cons, Nat.succ_mul]
    omega
theorem wipe_idem (σ : L2.St) (i j : Nat) (hij : i ≠ j) (v w : Option V) : wipe ((((σ.set j none).set i none).set i v).set j w) [i, j] = wipe σ [i, j] := by
  show (((((σ.set j none).set i none).set i v).set j w).set j none).set i none = (σ.set j none).set i none
  rw [List.set_set, List.set_set]
  have c : ((σ.set j none).set i v).set j none = ((σ.set j none).set j none).set i v := (List.set_comm _ _ hij)
  rw [c, List.set_set, List.set_set]
/-- the comprehension of pairs: xs texts, behind it range(d) -/
theorem lc_pairs {K : PySem.W.Frag} {ti : TE} {tn : TA} {i j : Nat} {σ : L2.St} {H : Hp} {Q : VK} {a : Addr} {xs : List Str} {d : Nat} (hij : i ≠ j) (li : i < σ.length) (lj : j < σ.length) (hq : Sq K H a (xs.map V.str)) (small : xs.length * d ≤ 1000) (hd : d < 1000) (hi : ∀ R : V → Hp → Prop, R (.ref a) H → ti σ H R)
    (hn : ∀ (v : V) (H1 : Hp) (R : List V → Hp → Prop), R [.int d] H1 → tn ((wipe σ [i, j]).set i (some v)) H1 R)
    (k : ∀ D bs H', Same H H' → H D = none → H' D = some (.lst (bs.map V.ref)) → Tups H' bs (pairsV xs d) → Q (.ref D) H')
    {vs vs1 : List Nat} (e1 : vs = [i, j] := by rfl) (e2 : vs1 = [j] := by rfl) :
    tLc2 (iSq K ti) (gName i) tYes (iRng1 tn) (gName j) tYes (tTup (tCons (tVar i) (tCons (tVar j) tNil))) vs vs1 σ H Q := by
  subst e1 e2
  refine hi _ ⟨a, xs.map V.str, rfl, hq, fun J wk D hD => ?_⟩
  have step0 : ∀ {bs : List Addr} {H' : Hp}, Same H H' → ∀ y, Same H (upd H' D y) := fun s y b o e => by
    have ne : b ≠ D := ne_of_none e hD
    exact (upd_ne ne).trans (s b o e)
  have all_len : (xs.map V.str).length = xs.length := List.length_map ..
  let Pv : Nat → Hp → Prop := fun n H' => ∃ bs, H' D = some (.lst (bs.map V.ref)) ∧ Same H H' ∧ Tups H' bs (pairsV (xs.take n) d)
  refine ⟨fun n m H' => m + n = xs.length ∧ Pv n H', ⟨xs.length, by omega, [], upd_same, same_new hD, rfl, fun i b v hb _ => by simp at hb⟩, fun n m H' q => ?_⟩
  obtain ⟨em, bs, hbs, sm, tu⟩ := q
  have gg : SqKeep K a (xs.map V.str) H H' := .of_same sm
  by_cases lt : n < xs.length
  · refine .inr ⟨wk.goes n H' (by rw [all_len]; exact lt) gg, Pv (n + 1), fun H2 p => ⟨m - 1, by omega, by omega, p⟩, fun v H2 y => ?_⟩
    obtain ⟨rfl, hx⟩ := wk.yields n H' v H2 (by rw [all_len]; exact lt) gg y
    rw [List.getElem?_map, List.getElem?_eq_getElem lt] at hx
    cases hx
    refine ⟨?_, ?_⟩
    · show wipe (((σ.set j none).set i none).set i _) [i, j] = wipe σ [i, j]
      show ((((σ.set j none).set i none).set i _).set j none).set i none = (σ.set j none).set i none
      rw [List.set_set, List.set_comm _ _ hij, List.set_set, List.set_set]
    · with_reducible refine yesU ?_
      refine hn _ _ _ ⟨d, rfl, by omega, by omega, ?_⟩
      refine ⟨fun y z H3 => z + y = d ∧ ∃ cs, H3 D = some (.lst (cs.map V.ref)) ∧ Same H H3 ∧ Tups H3 cs (pairsV (xs.take n) d ++ (List.range y).map fun (t : Nat) => [V.str xs[n], V.int t]), ⟨d, by omega, bs, hbs, sm, by simpa using tu⟩, fun y z H3 q => ?_⟩
      obtain ⟨ez, cs, hcs, sm3, tu3⟩ := q
      by_cases ly : y < d
      · refine .inr ⟨by show y < ((d : Int)).toNat; omega, fun H4 => ∃ cs, H4 D = some (.lst (cs.map V.ref)) ∧ Same H H4 ∧ Tups H4 cs (pairsV (xs.take n) d ++ (List.range (y + 1)).map fun (t : Nat) => [V.str xs[n], V.int t]), fun H4 p => ⟨z - 1, by omega, by omega, p⟩, fun v H4 yy => ?_⟩
        obtain ⟨rfl, rfl⟩ := yy
        have w3 : wipe ((wipe ((wipe σ [i, j]).set i (some (V.str xs[n]))) [j]).set j (some (V.int (0 + (y : Nat))))) [j] = wipe ((wipe σ [i, j]).set i (some (V.str xs[n]))) [j] := wipe_set1 _ j _
        refine ⟨w3, ?_⟩
        with_reducible refine yesU ?_
        have li' : i < (wipe σ [i, j]).length := by rw [wipe_length]; exact li
        have lj' : j < (((wipe σ [i, j]).set i (some (V.str xs[n]))).set j none).length := by rw [List.length_set, List.length_set, wipe_length]; exact lj
        have gi : (((((wipe σ [i, j]).set i (some (V.str xs[n]))).set j none).set j (some (V.int (0 + (y : Nat)))))[i]?) = some (some (V.str xs[n])) := by
          rw [List.getElem?_set_ne hij.symm, List.getElem?_set_ne hij.symm, List.getElem?_set_self li']
        have gj : (((((wipe σ [i, j]).set i (some (V.str xs[n]))).set j none).set j (some (V.int (0 + (y : Nat)))))[j]?) = some (some (V.int (0 + (y : Nat)))) := List.getElem?_set_self lj'
        refine ⟨_, gi, _, gj, by show 2 ≤ sizeLine; decide, fun p np => ?_⟩
        have nD : D ≠ p := fun z => by rw [z, np] at hcs; cases hcs
        refine ⟨cs.map V.ref, (upd_ne nD).trans hcs, ?_, cs ++ [p], ?_, ?_, ?_⟩
        · have z := tu3.1
          rw [List.length_append, length_pairsV, List.length_map, List.length_range, List.length_take] at z
          rw [List.length_map, z, sizeLine_eq]
          have le : min n xs.length * d + d ≤ xs.length * d := by
            have : (min n xs.length + 1) * d ≤ xs.length * d := Nat.mul_le_mul_right d (by omega)
            rw [Nat.succ_mul] at this
            exact this
          omega
        · rw [upd_same, List.map_append]
          rfl
        · refine fun b o e => ?_
          have n1 : b ≠ D := ne_of_none e hD
          have n2 : b ≠ p := fun z => by
            have := sm3 b o e
            rw [z, np] at this
            cases this
          exact (upd_ne n1).trans ((upd_ne n2).trans (sm3 b o e))
        · rw [List.range_succ, List.map_append, ← List.append_assoc]
          refine Tups.snoc (tu3.keep fun b us e => ?_) ?_
          · have n1 : b ≠ D := fun z => by rw [z, hcs] at e; cases e
            have n2 : b ≠ p := fun z => by rw [z, np] at e; cases e
            exact (upd_ne n1).trans ((upd_ne n2).trans e)
          · refine (upd_ne (Ne.symm nD)).trans ?_
            rw [upd_same]
            have e0 : (0 : Int) + ((y : Nat) : Int) = (y : Int) := by omega
            rw [e0]
      · obtain rfl : y = d := by omega
        refine .inl ⟨by show ((y : Int)).toNat ≤ y; omega, cs, hcs, sm3, ?_⟩
        rw [take_snoc (List.getElem?_eq_getElem lt), pairsV_snoc]
        exact tu3
  · obtain rfl : n = xs.length := by omega
    rw [List.take_length] at tu
    refine .inl ⟨?_, k D bs H' sm hD hbs tu⟩
    have z := wk.stops H' gg
    rw [all_len] at z
    exact z
/-- {p: i for i, p in enumerate(ps)} -/
theorem dc_index {K : PySem.W.Frag} {ta : TA} {i j : Nat} {σ : L2.St} {H : Hp} {Q : VK} {a : Addr} {bs : List Addr} {ks : List (List L2.Key)} (hij : i ≠ j) (li : i < σ.length) (lj : j < σ.length) (hq : Sq K H a (bs.map V.ref)) (kd : Keyed H bs ks) (nd : ks.Nodup) (small : bs.length ≤ 1000) (hi : ∀ R : List V → Hp → Prop, R [.ref a] H → ta σ H R)
    (k : ∀ D H', Same H H' → H D = none → H' D = some (.dT (ks.zipIdx.map fun z => (z.1, V.int z.2))) → Q (.ref D) H') {vs : List Nat} (evs : vs = [i, j] := by rfl) :
    tDcT (iEnumSq K ta) (gTup K 2 (gCons (gName i) (gCons (gName j) gNil))) tYes (tVar j) (tVar i) vs σ H Q := by
  subst evs
  refine hi _ ⟨a, bs.map V.ref, rfl, hq, fun J wk D hD => ?_⟩
  have lb : (bs.map V.ref).length = bs.length := List.length_map ..
  refine dcT_it wk (fun n H' => H' D = some (.dT ((ks.take n).zipIdx.map fun z => (z.1, V.int z.2))) ∧ Same H H') ⟨by rw [List.take_zero]; exact upd_same, same_new hD⟩ (fun n H' _ e => .of_same e.2) (fun n x H1 H2 lt e y => ?_) (fun H' e => ?_)
  · obtain ⟨hDd, sm⟩ := e
    obtain ⟨T, x0, y0, rfl, nT, rfl, ex, ey⟩ := y
    cases ex
    change (bs.map V.ref)[n]? = some y0 at ey
    rw [List.getElem?_map] at ey
    obtain ⟨b, hb, rfl⟩ := Option.map_eq_some_iff.mp ey
    have lk : n < ks.length := by rw [← kd.1]; exact (List.getElem?_eq_some_iff.mp hb).1
    have hk : ks[n]? = some ks[n] := List.getElem?_eq_getElem lk
    have hbk := kd.2 n b _ hb hk
    have nD : D ≠ T := fun z => by rw [z, nT] at hDd; cases hDd
    have smT : Same H (upd H1 T (.tup [.int (n : Nat), .ref b])) := sm.trans (same_new nT)
    have li' : i < (wipe σ [i, j]).length := by rw [wipe_length]; exact li
    have lj' : j < ((wipe σ [i, j]).set i (some (.int (n : Nat)))).length := by rw [List.length_set, wipe_length]; exact lj
    have gi : ((((wipe σ [i, j]).set i (some (.int (n : Nat)))).set j (some (V.ref b)))[i]?) = some (some (.int (n : Nat))) := by
      rw [List.getElem?_set_ne hij.symm, List.getElem?_set_self li']
    have gj : ((((wipe σ [i, j]).set i (some (.int (n : Nat)))).set j (some (V.ref b)))[j]?) = some (some (.ref b)) := List.getElem?_set_self lj'
    refine ⟨T, [.int (n : Nat), .ref b], rfl, SqT.of upd_same, rfl, _, _, rfl, _, _, rfl, rfl, wipe_idem σ i j hij _ _, ?_⟩
    with_reducible refine yesU ?_
    refine ⟨_, gj, _, gi, _, DPut.t ((upd_ne nD).trans hDd) (smT _ _ hbk) ?_, ?_, fun c o e => ?_⟩
    · rw [List.length_map, List.length_zipIdx, List.length_take, sizeLine_eq]
      omega
    · rw [upd_same, take_snoc hk, List.zipIdx_append, List.map_append]
      have fresh : valV ((ks.take n).zipIdx.map fun z => (z.1, V.int z.2)) ks[n] = none := by
        cases c : valV ((ks.take n).zipIdx.map fun z => (z.1, V.int z.2)) ks[n] with
        | none => rfl
        | some v =>
          unfold valV at c
          obtain ⟨pr, hf, _⟩ := Option.map_eq_some_iff.mp c
          have h1 := List.mem_of_find?_eq_some hf
          have h2 := List.find?_some hf
          obtain ⟨z, hz, rfl⟩ := List.mem_map.mp h1
          have h3 : z.1 = ks[n] := by simpa using h2
          have h4 : z.1 ∈ ks.take n := by
            have := List.mem_map_of_mem (f := Prod.fst) hz
            rw [List.zipIdx_map_fst] at this
            exact this
          rw [h3] at h4
          obtain ⟨m, hm⟩ := List.mem_iff_getElem?.mp h4
          rw [List.getElem?_take] at hm
          split at hm
          · rename_i c
            obtain ⟨hm1, hm2⟩ := List.getElem?_eq_some_iff.mp hm
            exact absurd hm2 (List.pairwise_iff_getElem.mp nd m n hm1 lk c)
          · cases hm
      have e1 := putK_new (V.int (n : Nat)) fresh
      rw [e1]
      have e2 : (ks.take n).length = n := by rw [List.length_take]; omega
      rw [e2, Nat.zero_add]
      rfl
    · have n1 : c ≠ D := ne_of_none e hD
      exact (upd_ne n1).trans (smT c o e)
  · obtain ⟨h1, h2⟩ := e
    have e2 : (bs.map V.ref).length = ks.length := by rw [lb]; exact kd.1
    rw [e2, List.take_length] at h1
    exact k D H' h2 hD h1
end L2.RV
set_option Elab.async false
set_option linter.all false
set_option maxRecDepth 100000
set_option maxHeartbeats 4000000
/-! Shapes made. -/
namespace L2.K19
open PySem PySem.Spec PyProof.Rows L2.RV
theorem once_all : ∀ (xs acc : List Str), (once acc xs).length = acc.length + xs.length → xs.Nodup ∧ ∀ x ∈ xs, x ∉ acc
  | [], acc, _ => ⟨.nil, fun _ h => absurd h List.not_mem_nil⟩
  | x :: r, acc, h => by
    by_cases c : acc.any (· == x) = true
    · have z := once_le r acc
      have e : once acc (x :: r) = once acc r := by
        show once (if acc.any (· == x) then acc else acc ++ [x]) r = _
        rw [if_pos c]
      rw [e, List.length_cons] at h
      omega
    · have e : once acc (x :: r) = once (acc ++ [x]) r := by
        show once (if acc.any (· == x) then acc else acc ++ [x]) r = _
        rw [if_neg c]
      rw [e, List.length_cons] at h
      obtain ⟨nd, no⟩ := once_all r (acc ++ [x]) (by rw [h, List.length_append, List.length_cons, List.length_nil]; omega)
      have nx : x ∉ acc := fun z => c (List.any_eq_true.mpr ⟨x, z, by simp⟩)
      refine ⟨List.nodup_cons.mpr ⟨fun z => no x z (List.mem_append_right _ List.mem_cons_self), nd⟩, fun y hy => ?_⟩
      rcases List.mem_cons.mp hy with rfl | hy
      · exact nx
      · exact fun z => no y hy (List.mem_append_left _ z)
theorem name_ok {x : Str} (h : isName x = true) : PyData.strOk x = true ∧ x.length ≤ 8 := by
  unfold isName at h
  simp only [Bool.and_eq_true] at h
  obtain ⟨_, h2, h3, _⟩ := h
  refine ⟨?_, by have := of_decide_eq_true h2; omega⟩
  unfold Txt.isascii at h3
  unfold PyData.strOk
  rw [Array.all_eq_true] at h3 ⊢
  intro i hi
  have z := of_decide_eq_true (h3 i hi)
  exact decide_eq_true (by omega)
/-- what are_keys says of texts -/
theorem areKeys_ok {xs : List Str} (h : areKeys xs = true) : 1 ≤ xs.length ∧ xs.length ≤ 6 ∧ (∀ x ∈ xs, isName x = true) ∧ xs.Nodup := by
  unfold areKeys at h
  simp only [Bool.and_eq_true] at h
  obtain ⟨h1, h2, h3, h4⟩ := h
  have a := of_decide_eq_true h1
  have b := of_decide_eq_true h2
  refine ⟨by omega, by omega, List.all_eq_true.mp h3, (once_all xs [] ?_).1⟩
  rw [of_decide_eq_true h4, List.length_nil, Nat.zero_add]
theorem places_pairs (ks : List Str) (d : Nat) : (placesOf ks d).map plV = pairsV ks d := by
  unfold placesOf pairsV
  rw [List.map_flatMap]
  simp only [List.map_map]
  rfl
theorem length_places (ks : List Str) (d : Nat) : (placesOf ks d).length = ks.length * d := by
  rw [← length_pairsV, ← places_pairs, List.length_map]
theorem mem_places {ks : List Str} {d : Nat} {p : Str × Nat} : p ∈ placesOf ks d ↔ p.1 ∈ ks ∧ p.2 < d := by
  unfold placesOf
  rw [List.mem_flatMap]
  constructor
  · rintro ⟨k, hk, hp⟩
    obtain ⟨i, hi, rfl⟩ := List.mem_map.mp hp
    exact ⟨hk, List.mem_range.mp hi⟩
  · rintro ⟨h1, h2⟩
    exact ⟨p.1, h1, List.mem_map.mpr ⟨p.2, List.mem_range.mpr h2, rfl⟩⟩
theorem nodup_places : ∀ {ks : List Str} (d : Nat), ks.Nodup → (placesOf ks d).Nodup
  | [], d, _ => .nil
  | k :: r, d, nd => by
    rw [List.nodup_cons] at nd
    have ih := nodup_places d nd.2
    have e : placesOf (k :: r) d = (List.range d).map (fun i => (k, i)) ++ placesOf r d := by
      unfold placesOf
      rw [List.flatMap_cons]
    rw [e]
    refine List.nodup_append.mpr ⟨?_, ih, fun p hp q hq z => ?_⟩
    · refine List.Pairwise.map (R := fun a b => a ≠ b) _ (fun a b n z => n ?_) List.nodup_range
      injection z
    · subst z
      obtain ⟨i, _, rfl⟩ := List.mem_map.mp hp
      exact nd.1 (mem_places.mp hq).1
theorem nodup_plK {ps : List (Str × Nat)} (h : ps.Nodup) : (ps.map plK).Nodup := List.Pairwise.map _ (fun _ _ n z => n (plK_inj.mp z)) h
theorem tups_keyed {H : Hp} {bs : List Addr} {ps : List (Str × Nat)} (t : Tups H bs (ps.map plV)) : Keyed H bs (ps.map plK) := by
  refine ⟨by rw [t.1, List.length_map, List.length_map], fun i b k hb hk => ?_⟩
  rw [List.getElem?_map] at hk
  obtain ⟨p, hp, rfl⟩ := Option.map_eq_some_iff.mp hk
  exact t.2 i b (plV p) hb (by rw [List.getElem?_map, hp]; rfl)
def spShapeInit (K : PySem.W.Frag) : Sp := fun vs H Q _ => ∃ x dx a xs, ∃ d : Nat, vs = [.ref x, .ref a, .int d] ∧ H x = some (.ins (He.ga K "Shape") dx []) ∧ H dx = some (.own x) ∧ Sq K H a (xs.map V.str) ∧ areKeys xs = true ∧ (∀ y ∈ xs, y.length ≤ sizeLine) ∧ 1 ≤ d ∧ d ≤ 8 ∧ xs.length * d ≤ 36 ∧
  ∀ H' ys, Keep x H H' → ys.Perm xs → sortedS ys = true → ShapeAt K H' x ys d → Q .non H'
def shFs1 (t1 : Addr) : List (Str × V) := [("key_names", .ref t1)]
def shFs2 (t1 : Addr) (d : Nat) : List (Str × V) := [("key_names", .ref t1), ("days", .int d)]
def shFs3 (t1 t2 : Addr) (d : Nat) : List (Str × V) := [("key_names", .ref t1), ("days", .int d), ("places", .ref t2)]
theorem keep_up {H H1 : Hp} {x : Addr} {u v : HO} (k : Keep x H H1) (hx : H x = some u) : Keep x H (upd H1 x v) := fun b o n e => (upd_ne n).trans (k b o n e)
section
variable {P : Program} {w : World} {K : PySem.W.Frag} {mg : Str → Option Value} {base : Heap} {fd : FuncData}
theorem ok_shape_init (T : Top w K mg) (D_are_keys : Def P w K mg base "are_keys" 2 ["value"] (spAreKeys K)) (D_is_whole_from : Def P w K mg base "is_whole_from" 2 ["value", "low", "high"] (spFrom K)) (R_BadShape : RzX P w K mg base "BadShape" (ca K 3) ["part"]) (R_TooMany : RzX P w K mg base "TooMany" (ca K 11) ["what", "most"]) {f : Addr} (F : FunD K "__init__" "Shape.__init__" (defArgs s_Shape_init) (defBody s_Shape_init) (defScope s_Shape_init) [] [] f fd) : FnOk P w K mg base (L2.CX P w) 3 f fd ["self", "keys", "days"] (spShapeInit K) := by
  refine F.ok sc_Shape_init (fun vs H Q E h => ?_) (fun cdv A outer s H vs Q E hr h => ?_)
  · obtain ⟨x, dx, a, xs, d, rfl, _⟩ := h
    rfl
  · obtain ⟨x, dx, a, xs, d, rfl, hx, hdx, q, ak, short, d1, d8, few, k⟩ := h
    have hu := hr.units
    refine ⟨_, (pss_cons (ps_if (pt_not (pt_val (pe_callD D_are_keys (hr.mono (by decide)) rfl (pa_cons (pv 1) pa_nil)))) (pss_one (ps_rz R_BadShape rfl (hr.mono (by decide)) (takes_of rfl rfl rfl rfl) rfl (pa_cons pe_str pa_nil))) pss_nil)
      (pss_cons (ps_if (pt_not (pt_val (pe_callD D_is_whole_from (hr.mono (by decide)) rfl (pa_cons (pv 2) (pa_cons pe_int (pa_cons (pe_globE rfl T.i_MOST_DAYS) pa_nil)))))) (pss_one (ps_rz R_BadShape rfl (hr.mono (by decide)) (takes_of rfl rfl rfl rfl) rfl (pa_cons pe_str pa_nil))) pss_nil)
      (pss_cons (ps_if (pt_cmpR op_gt (pe_op op_times (pe_callB (call_lenK (K := K) rfl) rfl T.n_len (by decide +kernel) (pa_cons (pv 1) pa_nil)) (pv 2)) (pe_globE rfl T.i_MOST_PLACES) (nomark _)) (pss_one (ps_rz R_TooMany rfl (hr.mono (by decide)) (takes_of rfl rfl rfl rfl) rfl (pa_cons pe_str (pa_cons (pe_globE rfl T.i_MOST_PLACES) pa_nil)))) pss_nil)
      (pss_cons (ps_fld (pv 0) (pe_callTy call_tuple_of rfl T.n_tuple (by decide +kernel) (pa_cons (pe_callB cr_sortedS rfl T.n_sorted (by decide +kernel) (pa_cons (pe_lc (own := [("key", 3)]) (g := gName 3) (tt := tYes) (by rfl) sc_Shape_init.nd (pi_sqK (K := K) rfl (pv 1)) (blkOk_by (own := [("key", 3)]) (N := ["self", "keys", "days", "key", "day", "index", "place"]) (sc := defScope s_Shape_init) (by decide +kernel)) (fun _ _ _ _ _ => by exact (pg_name (i := 3) sc_Shape_init.nd rfl (by first | exact Or.inl rfl | exact Or.inr rfl))) (fun _ _ _ _ _ => by exact pts_nil) (fun _ _ _ _ _ => by exact (pe_callTy SkE.call_str_str rfl T.n_str (by decide +kernel) (pa_cons (pv 3) pa_nil)))) pa_nil)) pa_nil)) rfl)
      (pss_cons (ps_fld (pv 0) (pv 2) rfl)
      (pss_cons (ps_fld (pv 0) (pe_callTy call_tuple_of rfl T.n_tuple (by decide +kernel) (pa_cons (pe_lc2 (own := [("key", 3), ("day", 4)]) (vs1 := [4]) (g := gName 3) (g1 := gName 4) (tt := tYes) (tt1 := tYes) (by rfl) sc_Shape_init.nd (pi_sqK (K := K) rfl (pe_fldK (K := K) rfl (pv 0) rfl)) (blkOk_by (own := [("key", 3), ("day", 4)]) (N := ["self", "keys", "days", "key", "day", "index", "place"]) (sc := defScope s_Shape_init) (by decide +kernel)) (by decide) (fun _ _ _ _ _ => by exact (pg_name (i := 3) sc_Shape_init.nd rfl (by first | exact Or.inl rfl | exact Or.inr rfl))) (fun _ _ _ _ _ => by exact pts_nil) (fun _ _ _ _ _ => by exact (pi_range1 rfl T.n_range (pa_cons (pv 2) pa_nil))) (fun _ _ _ _ _ => by exact (pg_name (i := 4) sc_Shape_init.nd rfl (by first | exact Or.inl rfl | exact Or.inr rfl))) (fun _ _ _ _ _ => by exact pts_nil) (fun _ _ _ _ _ => by exact (pe_tup (pa_cons (pv 3) (pa_cons (pv 4) pa_nil))))) pa_nil)) rfl)
      (pss_one (ps_fld (pv 0) (pe_dcT (own := [("index", 5), ("place", 6)]) (g := gTup K 2 (gCons (gName 5) (gCons (gName 6) gNil))) (tt := tYes) (Nat.lt_of_le_of_lt (Nat.le_add_right _ _) hu) (by rfl) sc_Shape_init.nd (pi_enumSq rfl T.n_enumerate (pa_cons (pe_fldK (K := K) rfl (pv 0) rfl) pa_nil)) (blkOk_by (own := [("index", 5), ("place", 6)]) (N := ["self", "keys", "days", "key", "day", "index", "place"]) (sc := defScope s_Shape_init) (by decide +kernel)) (fun _ _ _ _ _ => by exact (pg_tup rfl (pgs_cons (pg_name (i := 5) sc_Shape_init.nd rfl (by first | exact Or.inl rfl | exact Or.inr rfl)) (pgs_cons (pg_name (i := 6) sc_Shape_init.nd rfl (by first | exact Or.inl rfl | exact Or.inr rfl)) pgs_nil)))) (fun _ _ _ _ _ => by exact pts_nil) (fun _ _ _ _ _ => by exact (pv 6)) (fun _ _ _ _ _ => by exact (pv 5))) rfl)))))))), ?_⟩
    obtain ⟨l1, l6, names, nd⟩ := areKeys_ok ak
    refine ⟨_, rfl, a, xs, rfl, q, by omega, short, fun H1 s1 => ⟨_, rfl, ?_⟩⟩
    refine ite2 (fun c => absurd c (by rw [ak]; decide)) (fun _ => ?_)
    have q1 := q.keep (SqKeep.of_same s1)
    refine ⟨_, rfl, .int d, 1, 8, rfl, kinds_int _, _, rfl, ?_⟩
    refine ite2 (fun c => absurd c (by
      have e : from_ 1 8 (.int (d : Int)) = true := by
        show (decide ((1 : Int) ≤ d) && decide ((d : Int) ≤ 8)) = true
        rw [decide_eq_true (by omega), decide_eq_true (by omega)]
        rfl
      rw [e]; decide)) (fun _ => ?_)
    refine ⟨_, rfl, _, _, rfl, len_sq q1, _, rfl, .inl ⟨_, _, rfl, rfl, cmulL (by omega) (by rw [List.length_map]; omega), _, _, rfl, rfl, _, rfl, ?_⟩⟩
    refine ite2 (fun c => absurd (of_decide_eq_true c) (by
      rw [List.length_map]
      have : ((xs.length : Int) * (d : Int)) = ((xs.length * d : Nat) : Int) := by push_cast; rfl
      rw [this]
      omega)) (fun _ => ?_)
    with_reducible refine nxU ?_
    with_reducible refine sfldsU ?_
    with_reducible refine cb1U ?_
    with_reducible refine cb1U ?_
    have hx1 := s1 _ _ hx
    have hdx1 := s1 _ _ hdx
    have ne : dx ≠ x := fun z => by rw [z, hx] at hdx; cases hdx
    refine lc_pure (j := 3) (fun _ => true) (fun v => v) q1 (by rw [List.length_map, sizeLine_eq]; omega) (fun R r => ⟨_, rfl, r⟩) (fun v hv H2 Q' s q' => q') (fun v hv _ H2 Q' s q' => ?_) fun D hD => ?_
    · obtain ⟨y, _, rfl⟩ := List.mem_map.mp hv
      exact ⟨_, rfl, y, rfl, q'⟩
    rw [filt_all, List.map_id']
    refine ⟨D, xs, rfl, .inl (.inl upd_same), by omega, fun ys p perm so hp => ?_⟩
    refine ⟨p, ys.map V.str, rfl, .inl ⟨.inl (.inl upd_same), fun t ht => ?_⟩⟩
    have s2 := ((s1.trans (same_new hD)).trans (same_new hp)).trans (same_new (o := .tup (ys.map V.str)) ht)
    have et : (upd (upd (upd H1 D (.lst (xs.map V.str))) p (.lst (ys.map V.str))) t (.tup (ys.map V.str))) t = some (.tup (ys.map V.str)) := upd_same
    generalize upd (upd (upd H1 D (.lst (xs.map V.str))) p (.lst (ys.map V.str))) t (.tup (ys.map V.str)) = H2 at s2 et ⊢
    clear hD hp ht q1 hx1 hdx1 s1 q
    have hx2 := s2 _ _ hx
    have hdx2 := s2 _ _ hdx
    have net : t ≠ x := fun z => by rw [z, hx2] at et; cases et
    refine ⟨_, rfl, x, _, dx, [], rfl, hx2, T.k_Shape, T.a_Shape_key_names, (by decide : (0 : Nat) < 1000), ?_⟩
    -- days
    with_reducible refine sfldsU ?_
    refine ⟨_, rfl, _, rfl, x, _, dx, shFs1 t, rfl, upd_same, T.k_Shape, T.a_Shape_days, (by decide : (1 : Nat) < 1000), ?_⟩
    rw [upd_upd]
    show tSeq _ _ _ _ (upd H2 x (.ins _ dx (shFs2 t d)))
    have k3 : Keep x H (upd H2 x (.ins (He.ga K "Shape") dx (shFs2 t d))) := keep_up (Keep.of s2) hx
    have et3 : (upd H2 x (.ins (He.ga K "Shape") dx (shFs2 t d))) t = some (.tup (ys.map V.str)) := (upd_ne net).trans et
    have hx3 : (upd H2 x (.ins (He.ga K "Shape") dx (shFs2 t d))) x = some (.ins (He.ga K "Shape") dx (shFs2 t d)) := upd_same
    generalize upd H2 x (.ins (He.ga K "Shape") dx (shFs2 t d)) = H3 at k3 et3 hx3 ⊢
    clear s2 et hx2 hdx2
    -- places
    with_reducible refine sfldsU ?_
    with_reducible refine cb1U ?_
    have ly : ys.length = xs.length := perm.length_eq
    refine lc_pairs (i := 3) (j := 4) (by decide) (by show 3 < 7; decide) (by show 4 < 7; decide) (.inl (SqT.of et3)) (by rw [ly]; omega) (by omega) (fun R r => ⟨_, rfl, x, _, dx, _, _, rfl, hx3, T.k_Shape, T.a_Shape_key_names, rfl, r⟩) (fun v H4 R r => ⟨_, rfl, r⟩) fun D bs H4 s4 hD hDl tu => ?_
    refine ⟨D, bs.map V.ref, rfl, .inl ⟨.inl (.inl hDl), fun t2 ht2 => ?_⟩⟩
    have s5 := s4.trans (same_new (o := .tup (bs.map V.ref)) ht2)
    have e5 : (upd H4 t2 (.tup (bs.map V.ref))) t2 = some (.tup (bs.map V.ref)) := upd_same
    have tu5 := tu.keep (H' := upd H4 t2 (.tup (bs.map V.ref))) fun b us e => same_new ht2 _ _ e
    generalize upd H4 t2 (.tup (bs.map V.ref)) = H5 at s5 e5 tu5 ⊢
    clear tu hDl s4 ht2 hD
    have hx5 := s5 _ _ hx3
    have et5 := s5 _ _ et3
    have net2 : t2 ≠ x := fun z => by rw [z, hx5] at e5; cases e5
    refine ⟨_, rfl, x, _, dx, shFs2 t d, rfl, hx5, T.k_Shape, T.a_Shape_places, (by decide : (2 : Nat) < 1000), ?_⟩
    show sFld _ _ _ _ _ _ (upd H5 x (.ins _ dx (shFs3 t t2 d)))
    have k6 : Keep x H (upd H5 x (.ins (He.ga K "Shape") dx (shFs3 t t2 d))) := keep_up (k3.trans (Keep.of s5)) hx
    have et6 : (upd H5 x (.ins (He.ga K "Shape") dx (shFs3 t t2 d))) t = some (.tup (ys.map V.str)) := (upd_ne net).trans et5
    have e6 : (upd H5 x (.ins (He.ga K "Shape") dx (shFs3 t t2 d))) t2 = some (.tup (bs.map V.ref)) := (upd_ne net2).trans e5
    have hx6 : (upd H5 x (.ins (He.ga K "Shape") dx (shFs3 t t2 d))) x = some (.ins (He.ga K "Shape") dx (shFs3 t t2 d)) := upd_same
    have tu6 := tu5.keep (H' := upd H5 x (.ins (He.ga K "Shape") dx (shFs3 t t2 d))) fun b us e => by
      have n : b ≠ x := fun z => by rw [z, hx5] at e; cases e
      exact (upd_ne n).trans e
    generalize upd H5 x (.ins (He.ga K "Shape") dx (shFs3 t t2 d)) = H6 at k6 et6 e6 hx6 tu6 ⊢
    clear tu5 s5 e5 hx5 et5 k3 et3 hx3
    -- indexes
    with_reducible refine sfldU ?_
    rw [← places_pairs] at tu6
    have ndp := nodup_places d ((perm.nodup_iff).mpr nd)
    have lb : bs.length = ys.length * d := by rw [tu6.1, List.length_map, length_places]
    refine dc_index (i := 5) (j := 6) (by decide) (by show 5 < 7; decide) (by show 6 < 7; decide) (.inl (SqT.of e6)) (tups_keyed tu6) (nodup_plK ndp) (by rw [lb, ly]; omega) (fun R r => ⟨_, rfl, x, _, dx, _, _, rfl, hx6, T.k_Shape, T.a_Shape_places, rfl, r⟩) fun D H7 s7 hD e7 => ?_
    have hx7 := s7 _ _ hx6
    have nD : D ≠ x := fun z => by rw [z, hx7] at e7; cases e7
    refine ⟨_, rfl, x, _, dx, shFs3 t t2 d, rfl, hx7, T.k_Shape, T.a_Shape_indexes, (by decide : (3 : Nat) < 1000), ?_⟩
    have k8 : Keep x H (upd H7 x (.ins (He.ga K "Shape") dx [("key_names", .ref t), ("days", .int d), ("places", .ref t2), ("indexes", .ref D)])) := keep_up (k6.trans (Keep.of s7)) hx
    refine k _ ys k8 perm so ⟨⟨dx, t, t2, D, bs, upd_same, k8 _ _ ne hdx, .inl ((upd_ne net).trans (s7 _ _ et6)), .inl ((upd_ne net2).trans (s7 _ _ e6)), by rw [lb, length_places], fun i p b hp hb => ?_, ?_⟩, ?_, ⟨(perm.nodup_iff).mpr nd, fun y hy => names y (perm.mem_iff.mp hy), by omega, by omega, d1, d8, by rw [ly]; exact few⟩⟩
    · have z := tu6.2 i b (plV p) hb (by rw [List.getElem?_map, hp]; rfl)
      have n : b ≠ x := fun y => by rw [y, hx6] at z; cases z
      exact (upd_ne n).trans (s7 _ _ z)
    · refine .inl ((upd_ne nD).trans ?_)
      rw [e7, List.zipIdx_map, List.map_map]
      rfl
    · exact List.all_eq_true.mpr fun y hy => (name_ok (names y (perm.mem_iff.mp hy))).1
end
end L2.K19
set_option Elab.async false
set_option linter.all false
set_option maxRecDepth 100000
set_option maxHeartbeats 4000000
/-! What stays when a heap changes; amounts looked at. -/
namespace L2.K19
open PySem PySem.Spec PyProof.Rows L2.RV
def Fix : HO → Prop
  | .ins _ _ _ => True
  | .own _ => True
  | .tup _ => True
  | _ => False
/-- objects, tuples and dicts by tuples stay, the dicts of E aside -/
structure Kp (E : Addr → Prop) (H H' : Hp) : Prop where
  fix : ∀ b o, Fix o → H b = some o → H' b = some o
  dt : ∀ b (kvs : List (List L2.Key × V)), ¬ E b → Rd H b (.dT kvs) → Rd H' b (.dT kvs)
  tu : ∀ b xs, Rd H b (.tup xs) → Rd H' b (.tup xs)
abbrev Kp0 : Hp → Hp → Prop := Kp fun _ => False
theorem Kp.refl {E : Addr → Prop} {H : Hp} : Kp E H H := ⟨fun _ _ _ h => h, fun _ _ _ h => h, fun _ _ h => h⟩
theorem Kp.trans {E : Addr → Prop} {H H1 H2 : Hp} (a : Kp E H H1) (b : Kp E H1 H2) : Kp E H H2 := ⟨fun c o f h => b.fix c o f (a.fix c o f h), fun c k n h => b.dt c k n (a.dt c k n h), fun c x h => b.tu c x (a.tu c x h)⟩
theorem Kp.more {E E' : Addr → Prop} {H H1 : Hp} (a : Kp E H H1) (e : ∀ b, E b → E' b) : Kp E' H H1 := ⟨a.fix, fun c k n h => a.dt c k (fun z => n (e c z)) h, a.tu⟩
theorem Kp.all {E : Addr → Prop} {H H1 : Hp} (a : Kp0 H H1) : Kp E H H1 := a.more fun _ z => z.elim
theorem Kp.of {E : Addr → Prop} {H H' : Hp} (s : Same H H') : Kp E H H' := ⟨fun b o _ h => s b o h, fun _ _ _ h => Rd.keep h (s _), fun _ _ h => Rd.keep h (s _)⟩
theorem Kp.pen {E : Addr → Prop} {H H' : Hp} {p : Addr} {xs : List V} (k : Keep p H H') (e : H p = some (.lst xs)) : Kp E H H' := by
  have ne : ∀ {b o}, H b = some o → (∀ ys, o ≠ .lst ys) → b ≠ p := fun {b o} h n z => by
    rw [z, e] at h
    exact n xs (Option.some.inj h).symm
  refine ⟨fun b o f h => k b o (ne h fun ys z => by rw [z] at f; exact f) h, fun b kvs _ h => ?_, fun b ys h => ?_⟩
  · rcases h with h | ⟨od, h⟩
    · exact .inl (k b _ (ne h fun _ z => nomatch z) h)
    · exact .inr ⟨od, k b _ (ne h fun _ z => nomatch z) h⟩
  · rcases h with h | ⟨od, h⟩
    · exact .inl (k b _ (ne h fun _ z => nomatch z) h)
    · exact .inr ⟨od, k b _ (ne h fun _ z => nomatch z) h⟩
theorem Kp.lock {E : Addr → Prop} {H : Hp} {t : Addr} {kvs : List (List L2.Key × V)} {od : Obj} (e : H t = some (.dT kvs)) : Kp E H (upd H t (.frz od (.dT kvs))) := by
  refine ⟨fun b o f h => ?_, fun b ks _ h => ?_, fun b ys h => ?_⟩
  · have n : b ≠ t := fun z => by rw [z, e] at h; cases h; exact f
    exact (upd_ne n).trans h
  · by_cases n : b = t
    · subst n
      rcases h with h | ⟨od', h⟩
      · rw [e] at h
        cases h
        exact .inr ⟨od, upd_same⟩
      · rw [e] at h
        cases h
    · exact Rd.keep h fun o z => (upd_ne n).trans z
  · have n : b ≠ t := fun z => by
      rcases h with h | ⟨od', h⟩
      · rw [z, e] at h; cases h
      · rw [z, e] at h; cases h
    exact Rd.keep h fun o z => (upd_ne n).trans z
/-- a dict is changed -/
theorem Kp.mut {H : Hp} {t : Addr} {kvs : List (List L2.Key × V)} {o' : HO} (e : H t = some (.dT kvs)) : Kp (fun b => b = t) H (upd H t o') := by
  refine ⟨fun b o f h => ?_, fun b ks n h => ?_, fun b ys h => ?_⟩
  · have n : b ≠ t := fun z => by rw [z, e] at h; cases h; exact f
    exact (upd_ne n).trans h
  · exact Rd.keep h fun o z => (upd_ne n).trans z
  · have n : b ≠ t := fun z => by
      rcases h with h | ⟨od', h⟩
      · rw [z, e] at h; cases h
      · rw [z, e] at h; cases h
    exact Rd.keep h fun o z => (upd_ne n).trans z
/-- .. and their dicts are not locked -/
structure Kx (E : Addr → Prop) (H H' : Hp) : Prop where
  kp : Kp E H H'
  ex : ∀ b (kvs : List (List L2.Key × V)), ¬ E b → H b = some (.dT kvs) → H' b = some (.dT kvs)
abbrev Kx0 : Hp → Hp → Prop := Kx fun _ => False
theorem Kx.refl {E : Addr → Prop} {H : Hp} : Kx E H H := ⟨Kp.refl, fun _ _ _ h => h⟩
theorem Kx.trans {E : Addr → Prop} {H H1 H2 : Hp} (a : Kx E H H1) (b : Kx E H1 H2) : Kx E H H2 := ⟨a.kp.trans b.kp, fun c k n h => b.ex c k n (a.ex c k n h)⟩
theorem Kx.more {E E' : Addr → Prop} {H H1 : Hp} (a : Kx E H H1) (e : ∀ b, E b → E' b) : Kx E' H H1 := ⟨a.kp.more e, fun c k n h => a.ex c k (fun z => n (e c z)) h⟩
theorem Kx.all {E : Addr → Prop} {H H1 : Hp} (a : Kx0 H H1) : Kx E H H1 := a.more fun _ z => z.elim
theorem Kx.of {E : Addr → Prop} {H H' : Hp} (s : Same H H') : Kx E H H' := ⟨.of s, fun b _ _ h => s b _ h⟩
theorem Kx.pen {E : Addr → Prop} {H H' : Hp} {p : Addr} {xs : List V} (k : Keep p H H') (e : H p = some (.lst xs)) : Kx E H H' :=
  ⟨.pen k e, fun b _ _ h => k b _ (fun z => by rw [z, e] at h; cases h) h⟩
theorem Kx.mut {H : Hp} {t : Addr} {kvs : List (List L2.Key × V)} {o' : HO} (e : H t = some (.dT kvs)) : Kx (fun b => b = t) H (upd H t o') := ⟨.mut e, fun b _ n h => (upd_ne n).trans h⟩
theorem SqT.kp {K : PySem.W.Frag} {E : Addr → Prop} {H H' : Hp} {a : Addr} {xs : List V} (q : SqT K H a xs) (k : Kp E H H') : SqT K H' a xs := q.imp (k.tu _ _) id
theorem upd_self {H : Hp} {t : Addr} {o : HO} (e : H t = some o) : upd H t o = H := by
  funext b
  by_cases n : b = t
  · subst n
    rw [upd_same, e]
  · exact upd_ne n
/-- a shape and the parts it is made of -/
structure ShapeC (K : PySem.W.Frag) (H : Hp) (a dx t1 t2 t3 : Addr) (bs : List Addr) (ks : List Str) (d : Nat) : Prop where
  obj : H a = some (.ins (He.ga K "Shape") dx [("key_names", .ref t1), ("days", .int d), ("places", .ref t2), ("indexes", .ref t3)])
  own : H dx = some (.own a)
  names : Rd H t1 (.tup (ks.map V.str))
  places : Rd H t2 (.tup (bs.map V.ref))
  len : bs.length = (placesOf ks d).length
  each : ∀ (i : Nat) (p : Str × Nat) (b : Addr), (placesOf ks d)[i]? = some p → bs[i]? = some b → H b = some (.tup (plV p))
  index : Rd H t3 (.dT ((placesOf ks d).zipIdx.map fun z => (plK z.1, .int z.2)))
  good : (ks.all fun x => PyData.strOk x) = true
  ok : ShOk ks d
theorem ShapeAt.core {K : PySem.W.Frag} {H : Hp} {a : Addr} {ks : List Str} {d : Nat} (s : ShapeAt K H a ks d) : ∃ dx t1 t2 t3 bs, ShapeC K H a dx t1 t2 t3 bs ks d := by
  obtain ⟨dx, t1, t2, t3, bs, h1, h2, h3, h4, h5, h6, h7⟩ := s.ex
  exact ⟨dx, t1, t2, t3, bs, h1, h2, h3, h4, h5, h6, h7, s.good, s.ok⟩
theorem ShapeC.at_ {K : PySem.W.Frag} {H : Hp} {a dx t1 t2 t3 : Addr} {bs : List Addr} {ks : List Str} {d : Nat} (c : ShapeC K H a dx t1 t2 t3 bs ks d) : ShapeAt K H a ks d := ⟨⟨dx, t1, t2, t3, bs, c.obj, c.own, c.names, c.places, c.len, c.each, c.index⟩, c.good, c.ok⟩
theorem ShapeC.kp {K : PySem.W.Frag} {E : Addr → Prop} {H H' : Hp} {a dx t1 t2 t3 : Addr} {bs : List Addr} {ks : List Str} {d : Nat} (c : ShapeC K H a dx t1 t2 t3 bs ks d) (k : Kp E H H') (n : ¬ E t3) : ShapeC K H' a dx t1 t2 t3 bs ks d :=
  ⟨k.fix _ _ True.intro c.obj, k.fix _ _ True.intro c.own, k.tu _ _ c.names, k.tu _ _ c.places, c.len, fun i p b hp hb => k.fix _ _ True.intro (c.each i p b hp hb), k.dt _ _ n c.index, c.good, c.ok⟩
theorem ShapeAt.kp {K : PySem.W.Frag} {H H' : Hp} {a : Addr} {ks : List Str} {d : Nat} (s : ShapeAt K H a ks d) (k : Kp0 H H') : ShapeAt K H' a ks d := by
  obtain ⟨dx, t1, t2, t3, bs, c⟩ := s.core
  exact (c.kp k id).at_
theorem ShapeC.keyed {K : PySem.W.Frag} {H : Hp} {a dx t1 t2 t3 : Addr} {bs : List Addr} {ks : List Str} {d : Nat} (c : ShapeC K H a dx t1 t2 t3 bs ks d) : Keyed H bs ((placesOf ks d).map plK) := by
  refine ⟨by rw [c.len, List.length_map], fun i b k hb hk => ?_⟩
  rw [List.getElem?_map] at hk
  obtain ⟨p, hp, rfl⟩ := Option.map_eq_some_iff.mp hk
  exact c.each i p b hp hb
theorem PlAt.kp {E : Addr → Prop} {H H' : Hp} {b : Addr} {p : Str × Nat} (x : PlAt H b p) (k : Kp E H H') : PlAt H' b p := k.fix _ _ True.intro x
theorem key_pl {H : Hp} {q : Addr} {p : Pl} (e : H q = some (.tup ((plK p).map kV))) : PlAt H q p := e
theorem plD_get {ws : List (Pl × Int)} {i : Nat} {k : List L2.Key} {v : V} (h : (plD ws)[i]? = some (k, v)) : ∃ z, z ∈ ws ∧ k = plK z.1 ∧ v = V.int z.2 := by
  unfold plD at h
  rw [List.getElem?_map] at h
  obtain ⟨z, hz, e⟩ := Option.map_eq_some_iff.mp h
  cases e
  exact ⟨z, List.mem_of_getElem? hz, rfl, rfl⟩
/-- check_amounts(shape, amounts), all of them right -/
def spAmounts (K : PySem.W.Frag) : Sp := fun vs H Q _ => ∃ a t ks d ws, vs = [.ref a, .ref t] ∧ ShapeAt K H a ks d ∧ H t = some (.dT (plD ws)) ∧ (∀ z ∈ ws, z.1 ∈ placesOf ks d) ∧ Q .non H
section
variable {P : Program} {w : World} {K : PySem.W.Frag} {mg : Str → Option Value} {base : Heap} {fd : FuncData}
theorem ok_check_amounts (T : Top w K mg) (S_Shape_contains : MethS CX0 P w K mg base (He.ga K "Shape") "__contains__" 3 ["self", "x"] (spShapeIn K)) (D_is_whole : Def P w K mg base "is_whole" 1 ["value"] (spWhole K)) (R_BadPlace : RzX P w K mg base "BadPlace" (ca K 7) ["value"]) (R_BadAmount : RzX P w K mg base "BadAmount" (ca K 8) ["value"]) (F : Fn K "check_amounts" s_check_amounts fd) : FnOk P w K mg base (L2.CX P w) 4 (He.ga K "check_amounts") fd ["shape", "amounts"] (spAmounts K) := by
  refine F.ok sc_check_amounts (fun vs H Q E h => ?_) (fun cdv A outer s H vs Q E hr h => ?_)
  · obtain ⟨a, t, ks, d, ws, rfl, _⟩ := h
    rfl
  · obtain ⟨a, t, ks, d, ws, rfl, s1, et, all, k⟩ := h
    have hu := hr.units
    refine ⟨_, (pss_cons (ps_lock (ps_for (passes_of rfl) rfl (pi_keys (pv 1)) (pg_name (i := 2) sc_check_amounts.nd rfl (by first | exact Or.inl rfl | exact Or.inr rfl)) (pss_one (ps_if (pt_cmpR (op_notInO S_Shape_contains (hr.mono (by decide)) pass_CX0) (pv 2) (pv 0) rfl) (pss_one (ps_rz R_BadPlace rfl (hr.mono (by decide)) (takes_of rfl rfl rfl rfl) rfl (pa_cons (pv 2) pa_nil))) pss_nil))))
      (pss_one (ps_lock (ps_for (passes_of rfl) rfl (pi_valuesT (pv 1)) (pg_name (i := 3) sc_check_amounts.nd rfl (by first | exact Or.inl rfl | exact Or.inr rfl)) (pss_one (ps_if (pt_not (pt_val (pe_callD D_is_whole (hr.mono (by decide)) rfl (pa_cons (pv 3) pa_nil)))) (pss_one (ps_rz R_BadAmount rfl (hr.mono (by decide)) (takes_of rfl rfl rfl rfl) rfl (pa_cons (pv 3) pa_nil))) pss_nil)))))), ?_⟩
    have sl : ∀ od, ShapeAt K (upd H t (.frz od (.dT (plD ws)))) a ks d := fun od => s1.kp (Kp.lock et)
    have un : ∀ od, upd (upd H t (.frz od (.dT (plD ws)))) t (.dT (plD ws)) = H := fun od => by rw [upd_upd, upd_self et]
    refine ⟨t, .dT (plD ws), et, True.intro, fun od => ?_⟩
    refine ⟨_, rfl, t, od, rfl, .inr ⟨plD ws, upd_same, ?_⟩⟩
    refine for_it walk_keysT (fun n σ' H' => (∃ c c', σ' = [some (.ref a), some (.ref t), c, c']) ∧ H' = upd H t (.frz od (.dT (plD ws)))) ⟨⟨_, _, rfl⟩, rfl⟩ (fun n σ' H' _ q => by rw [q.2]; exact upd_same) (fun n z σ' H' H'' hn q yy => ?_) (fun σ' H' q => ?_)
    · obtain ⟨⟨c, c', rfl⟩, rfl⟩ := q
      obtain ⟨rfl, key, v, q, hkv, rfl, hq⟩ := yy
      obtain ⟨z, hz, rfl, rfl⟩ := plD_get hkv
      obtain ⟨dy, gs, e5⟩ := (sl od).ins
      refine ⟨_, rfl, _, rfl, a, dy, gs, rfl, e5, a, q, ks, d, z.1, rfl, sl od, key_pl hq, _, rfl, _, rfl, ?_⟩
      rw [decide_eq_true (all z hz)]
      exact ⟨⟨_, _, rfl⟩, rfl⟩
    · obtain ⟨⟨c, c', rfl⟩, rfl⟩ := q
      refine ⟨upd_same, ?_⟩
      rw [un od]
      refine ⟨t, .dT (plD ws), et, True.intro, fun od2 => ?_⟩
      refine ⟨_, rfl, t, od2, plD ws, rfl, upd_same, ?_⟩
      refine for_it walk_valsT (fun n σ' H' => (∃ c c', σ' = [some (.ref a), some (.ref t), c, c']) ∧ H' = upd H t (.frz od2 (.dT (plD ws)))) ⟨⟨_, _, rfl⟩, rfl⟩ (fun n σ' H' _ q => by rw [q.2]; exact upd_same) (fun n z σ' H' H'' hn q yy => ?_) (fun σ' H' q => ?_)
      · obtain ⟨⟨c, c', rfl⟩, rfl⟩ := q
        obtain ⟨rfl, key, hkv⟩ := yy
        obtain ⟨z, hz, rfl, rfl⟩ := plD_get hkv
        refine ⟨_, rfl, .int z.2, rfl, kinds_int _, _, rfl, ?_⟩
        exact ⟨⟨_, _, rfl⟩, rfl⟩
      · obtain ⟨_, rfl⟩ := q
        refine ⟨upd_same, ?_⟩
        rw [un od2]
        exact k
end
end L2.K19
set_option Elab.async false
set_option linter.all false
set_option maxRecDepth 100000
set_option maxHeartbeats 4000000
/-! Comprehensions over tuples that are keys; makers with a star. -/
namespace L2.RV
open PySem PySem.Spec PyProof.Rows
theorem pass_E0 {X : Cx} : Passes (L2.CX X.prog X.w) X E0 := fun pins σ H s e s' I h => by
  obtain ⟨a, B, H', cls, d, ea, fl, hok, ub, na, os, ag, he⟩ := h
  exact he.elim
theorem call_reprK {X : Cx} {K : PySem.W.Frag} (hK : X.K = K) (hg : X.A.guards = some []) (hu : X.A.units + 64 < cLine) : CallR X (.builtin "repr") (rRepr K) := hK ▸ call_repr hg hu
/-- f'..' -/
def tFS (ts : List TE) : TE := fun σ H Q => tJs ts Str.empty σ H fun out H1 => Q (.str out) H1
theorem pe_fs {X : Cx} {v1 v2 : Expr} {rest : List Expr} {ts : List TE} {pos : Pos} (h : PJ X (v1 :: v2 :: rest) ts) : PE X (.JoinedStr (v1 :: v2 :: rest) pos) (tFS ts) := pe_joined h
/-- [f(k) for x in xs if p(k)], the xs tuples k -/
theorem lc_keyed {K : PySem.W.Frag} {ti te : TE} {tt : TT} {j : Nat} {σ : L2.St} {H : Hp} {Q : VK} {a : Addr} {bs : List Addr} {ks : List (List L2.Key)} (p : List L2.Key → Bool) (f : List L2.Key → V) (hq : Sq K H a (bs.map V.ref)) (kd : Keyed H bs ks) (small : bs.length ≤ sizeLine) (hi : ∀ R : V → Hp → Prop, R (.ref a) H → ti σ H R)
    (ht : ∀ b k, k ∈ ks → H b = some (.tup (k.map kV)) → ∀ (H1 : Hp) (Q' : Bool → Hp → Prop), Same H H1 → Q' (p k) H1 → tt ((wipe σ [j]).set j (some (.ref b))) H1 Q')
    (he : ∀ b k, k ∈ ks → H b = some (.tup (k.map kV)) → p k = true → ∀ (H1 : Hp) (Q' : VK), Same H H1 → Q' (f k) H1 → te ((wipe σ [j]).set j (some (.ref b))) H1 Q')
    (k : ∀ D, H D = none → Q (.ref D) (upd H D (.lst ((ks.filter p).map f)))) {vs : List Nat} (evs : vs = [j] := by rfl) : tLc (iSq K ti) (gName j) tt te vs σ H Q := by
  subst evs
  refine hi _ ⟨a, bs.map V.ref, rfl, hq, fun J wk D hD => ?_⟩
  refine lc_it wk (fun i H' => H' = upd H D (.lst (((ks.take i).filter p).map f))) rfl (fun i H' _ e => ?_) (fun i x H1 H2 lt e y => ?_) (fun H' e => ?_)
  · rw [e]
    exact .of_same (same_new hD)
  · subst e
    obtain ⟨rfl, hx⟩ := y
    obtain ⟨b, hb, rfl⟩ : ∃ b, bs[i]? = some b ∧ V.ref b = x := by
      rw [List.getElem?_map] at hx
      exact Option.map_eq_some_iff.mp hx
    have lb := (List.getElem?_eq_some_iff.mp hb).1
    have lk : i < ks.length := kd.1 ▸ lb
    have hk : ks[i]? = some ks[i] := List.getElem?_eq_getElem lk
    have hbk := kd.2 i b _ hb hk
    have mem : ks[i] ∈ ks := List.getElem_mem lk
    refine ⟨wipe_set1 σ j _, ht b _ mem hbk _ _ (same_new hD) ?_⟩
    rw [take_snoc hk, List.filter_append, List.map_append]
    cases c : p ks[i] with
    | false =>
      rw [if_neg (by decide)]
      have e : [ks[i]].filter p = [] := by simp [c]
      rw [e, List.map_nil, List.append_nil]
    | true =>
      rw [if_pos rfl]
      refine he b _ mem hbk c _ _ (same_new hD) ⟨_, upd_same, ?_, ?_⟩
      · rw [List.length_map]
        have y := List.length_filter_le p (ks.take i)
        rw [List.length_take] at y
        omega
      · have e : [ks[i]].filter p = [ks[i]] := by simp [c]
        rw [upd_upd, e]
        rfl
  · have e2 : (bs.map V.ref).length = ks.length := by rw [List.length_map]; exact kd.1
    rw [e, e2, List.take_length]
    exact k D hD
theorem Keyed.snoc {H : Hp} {bs : List Addr} {ks : List (List L2.Key)} {b : Addr} {k : List L2.Key} (z : Keyed H bs ks) (e : H b = some (.tup (k.map kV))) : Keyed H (bs ++ [b]) (ks ++ [k]) := by
  have t : Tups H bs (ks.map (·.map kV)) := ⟨by rw [z.1, List.length_map], fun i c v hc hv => by
    rw [List.getElem?_map] at hv
    obtain ⟨k', hk', rfl⟩ := Option.map_eq_some_iff.mp hv
    exact z.2 i c k' hc hk'⟩
  have u := t.snoc e
  refine ⟨by rw [List.length_append, List.length_append, z.1]; rfl, fun i c k' hc hk' => u.2 i c (k'.map kV) hc ?_⟩
  have e2 : ks.map (·.map kV) ++ [k.map kV] = (ks ++ [k]).map (·.map kV) := by rw [List.map_append]; rfl
  rw [e2, List.getElem?_map, hk']
  rfl
/-- [x for x in xs if p(x)], the xs tuples -/
theorem lc_sel {K : PySem.W.Frag} {ti : TE} {tt : TT} {j : Nat} {σ : L2.St} {H : Hp} {Q : VK} {a : Addr} {bs : List Addr} {ks : List (List L2.Key)} (p : List L2.Key → Bool) (hq : Sq K H a (bs.map V.ref)) (kd : Keyed H bs ks) (small : bs.length ≤ sizeLine) (hj : j < σ.length) (hi : ∀ R : V → Hp → Prop, R (.ref a) H → ti σ H R)
    (ht : ∀ b k, k ∈ ks → H b = some (.tup (k.map kV)) → ∀ (H1 : Hp) (Q' : Bool → Hp → Prop), Same H H1 → Q' (p k) H1 → tt ((wipe σ [j]).set j (some (.ref b))) H1 Q')
    (k : ∀ D cs, H D = none → Keyed H cs (ks.filter p) → Q (.ref D) (upd H D (.lst (cs.map V.ref)))) {vs : List Nat} (evs : vs = [j] := by rfl) : tLc (iSq K ti) (gName j) tt (tVar j) vs σ H Q := by
  subst evs
  refine hi _ ⟨a, bs.map V.ref, rfl, hq, fun J wk D hD => ?_⟩
  refine lc_it wk (fun i H' => ∃ cs, H' = upd H D (.lst (cs.map V.ref)) ∧ Keyed H cs ((ks.take i).filter p)) ⟨[], rfl, by rw [List.take_zero]; exact ⟨rfl, fun i b k hb _ => by simp at hb⟩⟩ (fun i H' _ e => ?_) (fun i x H1 H2 lt e y => ?_) (fun H' e => ?_)
  · obtain ⟨cs, rfl, _⟩ := e
    exact .of_same (same_new hD)
  · obtain ⟨cs, rfl, kc⟩ := e
    obtain ⟨rfl, hx⟩ := y
    obtain ⟨b, hb, rfl⟩ : ∃ b, bs[i]? = some b ∧ V.ref b = x := by
      rw [List.getElem?_map] at hx
      exact Option.map_eq_some_iff.mp hx
    have lb := (List.getElem?_eq_some_iff.mp hb).1
    have lk : i < ks.length := kd.1 ▸ lb
    have hk : ks[i]? = some ks[i] := List.getElem?_eq_getElem lk
    have hbk := kd.2 i b _ hb hk
    have mem : ks[i] ∈ ks := List.getElem_mem lk
    have lw : j < (wipe σ [j]).length := by rw [wipe_length]; exact hj
    refine ⟨wipe_set1 σ j _, ht b _ mem hbk _ _ (same_new hD) ?_⟩
    rw [take_snoc hk, List.filter_append]
    cases c : p ks[i] with
    | false =>
      rw [if_neg (by decide)]
      have e : [ks[i]].filter p = [] := by simp [c]
      rw [e, List.append_nil]
      exact ⟨cs, rfl, kc⟩
    | true =>
      rw [if_pos rfl]
      have e : [ks[i]].filter p = [ks[i]] := by simp [c]
      rw [e]
      refine ⟨.ref b, List.getElem?_set_self lw, cs.map V.ref, upd_same, ?_, cs ++ [b], ?_, kc.snoc hbk⟩
      · have y := List.length_filter_le p (ks.take i)
        rw [List.length_take] at y
        have z := kc.1
        rw [List.length_map]
        omega
      · rw [upd_upd, List.map_append]
        rfl
  · obtain ⟨cs, rfl, kc⟩ := e
    have e2 : (bs.map V.ref).length = ks.length := by rw [List.length_map]; exact kd.1
    rw [e2, List.take_length] at kc
    exact k D cs hD kc
section
variable {P : Program} {w : World} {K : PySem.W.Frag} {mg : Str → Option Value} {base : Heap} {CX : CXT} {k : Nat} {x qual pv p1 p2 : Str} {params : Arguments} {body : List Stmt} {scope : Scope} {f : Addr} {fd : FuncData} {N : List Str} {sp : Sp}
/-- what a body shows of def f(a, b, *v) -/
theorem starOk2 (F : FunD K x qual params body scope [] [] f fd) (S : FnScope N [p1, p2, pv] scope) (hCX : StX.CXUp CX)
    (h0 : ∀ (kV doc pm : Value) (an : Option Addr) (cdv ct a b : Value), bindArgs (PySem.W.fnOf x qual params body scope .none kV doc pm an cdv ct) ⟨[a, b], []⟩ = (newTuple [] >>= fun t => pure [(p1, a), (p2, b), (pv, t)]))
    (h1 : ∀ (kV doc pm : Value) (an : Option Addr) (cdv ct a b r : Value) (rs : List Value), bindArgs (PySem.W.fnOf x qual params body scope .none kV doc pm an cdv ct) ⟨a :: b :: r :: rs, []⟩ = (newTuple (r :: rs) >>= fun t => pure [(p1, a), (p2, b), (pv, t)]))
    (hbody : ∀ (cdv : Value) (A : Around) (outer : List Env) (s : Shared) (H : Hp) (vs : List V) (Q : VK) (E : XK), Room k (A.deeper (envOfC qual scope s.heap.objs.size f cdv)) → sp vs H Q E →
      ∃ t, PSs (cxOf CX P w K mg base N qual scope f cdv A outer s H E) body t ∧ t { nx := fun _ H' => Q .non H', rt := Q } (start N vs) H) :
    FnR P w K mg base CX (k + 1) f (fun vs H Q E => ∃ v u rest, vs = v :: u :: rest ∧ rest.length ≤ sizeLine ∧ ∀ p, H p = Option.none → sp [v, u, V.ref p] (upd H p (.tup rest)) Q E) := by
  obtain ⟨oc, od, dV, kV, doc, pm, an, cdv, ct, osl, rfl, lk, hcd, hD, hK⟩ := F.ex
  rcases hD with ⟨_, rfl⟩ | ⟨e, _⟩
  · refine FnR.imp (StX.fn_star (ps := [p1, p2]) (sp := sp) lk hcd S hCX (StX.bind_star2 (B := fun us => bindArgs _ ⟨us, []⟩) (fun a b => h0 kV doc pm an cdv ct a b) (fun a b r rs => h1 kV doc pm an cdv ct a b r rs)) (fun A outer s H vs Q E hr hs => hbody cdv A outer s H vs Q E hr hs)) fun vs H Q E hs => ?_
    obtain ⟨v, u, rest, rfl, l, q⟩ := hs
    exact ⟨[v, u], rest, rfl, rfl, l, q⟩
  · exact absurd rfl e
end
/-- the class x, made with arguments by positions, its __init__ promised so -/
structure MakeR (CX : CXT) (P : Program) (w : World) (K : PySem.W.Frag) (mg : Str → Option Value) (base : Heap) (x : Str) (C : Addr) (k : Nat) (sp : Sp) : Prop where
  ex : ∃ f, Mk K C f ∧ mg x = some (.ref C) ∧ FnR P w K mg base CX k f sp
section
variable {X : Cx} {CX : CXT} {x : Str} {C : Addr} {k : Nat} {sp : Sp} {E : XK} {p pos : Pos} {e : Expr} {es : List Expr} {t : TA}
theorem pe_mkR (D : MakeR CX X.prog X.w X.K X.mg X.base x C k sp) (hr : Room (k + 1) X.A) (hg : Gl X x) (hx : Passes CX X E)
    (ha : PA X (e :: es) t) (hdb : (x == ("__debug__" : Str)) = false := by decide) (he : starEach (e :: es) X.env = (false, eval e X.env) :: starEach es X.env := by rfl) (hpl : (backTo pos (starEach es X.env)).any (·.1) = false := by rfl) :
    PE X (.Call (.Name x p) (e :: es) [] pos) (StX.tMakeR C sp E t) := by
  obtain ⟨f, M, hm, F⟩ := D.ex
  exact StX.pe_makeR M F hr hg hm hx ha hdb he hpl
theorem pe_mkRS (D : MakeR CX X.prog X.w X.K X.mg X.base x C k sp) (hr : Room (k + 1) X.A) (hg : Gl X x) (hx : Passes CX X E)
    (ha : PA X (e :: es) t) (hdb : (x == ("__debug__" : Str)) = false := by decide) (he : starEach (e :: es) X.env = (false, eval e X.env) :: starEach es X.env := by rfl) (hst : (backTo pos (starEach es X.env)).any (·.1) = true := by rfl) :
    PE X (.Call (.Name x p) (e :: es) [] pos) (StX.tMakeR C sp E t) := by
  obtain ⟨f, M, hm, F⟩ := D.ex
  exact pe_makeS2 M F hr hg hm hx ha hdb he hst
end
end L2.RV
set_option Elab.async false
set_option linter.all false
set_option maxRecDepth 100000
set_option maxHeartbeats 4000000
/-! Parts made. -/
namespace L2.K19
open PySem PySem.Spec PyProof.Rows L2.RV
theorem valV_merge (k : List L2.Key) : ∀ (more acc : List (List L2.Key × V)), (valV (mergeT acc more) k).isSome = ((valV acc k).isSome || more.any fun kv => decide (kv.1 = k))
  | [], acc => by simp [mergeT]
  | kv :: r, acc => by
    show (valV (mergeT (putK acc kv.1 kv.2) r) k).isSome = _
    rw [valV_merge k r, valV_put, List.any_cons]
    by_cases e : kv.1 = k
    · rw [if_pos e.symm, decide_eq_true e]
      simp
    · rw [if_neg (fun z => e z.symm), decide_eq_false e, Bool.false_or]
theorem has_keys (p : Pl) (ps : List Pl) (v : V) : (valV (mergeT [] ((ps.map plK).map fun k => (k, v))) (plK p)).isSome = decide (p ∈ ps) := by
  rw [valV_merge]
  show (false || _) = _
  rw [Bool.false_or, List.map_map, List.any_map]
  induction ps with
  | nil => simp
  | cons q r ih =>
    rw [List.any_cons, ih]
    by_cases e : q = p
    · subst e
      simp
    · have n : ¬ plK q = plK p := fun z => e (plK_inj.mp z)
      have n2 : ¬ p = q := fun z => e z.symm
      show (decide (plK q = plK p) || _) = _
      rw [decide_eq_false n, Bool.false_or]
      simp [n2]
def plOf : List L2.Key → Pl
  | [.inr x, .inl i] => (x, i.toNat)
  | _ => ("", 0)
theorem plOf_plK (p : Pl) : plOf (plK p) = p := by
  obtain ⟨x, i⟩ := p
  show ((x, ((i : Nat) : Int).toNat) : Pl) = (x, i)
  rw [Int.toNat_natCast]
theorem filter_plK (ps : List Pl) (f : Pl → Bool) : (ps.map plK).filter (fun k => f (plOf k)) = (ps.filter f).map plK := by
  rw [List.filter_map]
  have e : ((fun k => f (plOf k)) ∘ plK) = f := funext fun p => by
    show f (plOf (plK p)) = f p
    rw [plOf_plK]
  rw [e]
/-- a part, its places' tuple at t, these at bs -/
structure PartC (K : PySem.W.Frag) (H : Hp) (a dx t s : Addr) (bs : List Addr) (ps : List Pl) : Prop where
  obj : H a = some (.ins (He.ga K "Part") dx [("shape", .ref s), ("places", .ref t)])
  own : H dx = some (.own a)
  places : SqT K H t (bs.map V.ref)
  keyed : Keyed H bs (ps.map plK)
theorem Keyed.kp {E : Addr → Prop} {H H' : Hp} {bs : List Addr} {ks : List (List L2.Key)} (z : Keyed H bs ks) (k : Kp E H H') : Keyed H' bs ks := ⟨z.1, fun i b x hb hx => k.fix _ _ True.intro (z.2 i b x hb hx)⟩
theorem PartC.kp {K : PySem.W.Frag} {E : Addr → Prop} {H H' : Hp} {a dx t s : Addr} {bs : List Addr} {ps : List Pl} (c : PartC K H a dx t s bs ps) (k : Kp E H H') : PartC K H' a dx t s bs ps :=
  ⟨k.fix _ _ True.intro c.obj, k.fix _ _ True.intro c.own, SqT.kp c.places k, Keyed.kp c.keyed k⟩
theorem PartC.of {K : PySem.W.Frag} {H : Hp} {a dx t s : Addr} {bs : List Addr} {ps : List Pl} (c : PartC K H a dx t s bs ps) : OfShape K H "Part" a s := ⟨dx, _, c.obj, rfl⟩
/-- the chosen ones of a shape's places, in order -/
def chosen (ks : List Str) (d : Nat) (ps : List Pl) : List Pl := (placesOf ks d).filter fun p => decide (p ∈ ps)
/-- Part.__init__, the places in a tuple at p -/
def spPartIn (K : PySem.W.Frag) : Sp := fun vs H Q _ => ∃ x dx s p bs ks d ps, vs = [.ref x, .ref s, .ref p] ∧ H x = some (.ins (He.ga K "Part") dx []) ∧ H dx = some (.own x) ∧ ShapeAt K H s ks d ∧ H p = some (.tup (bs.map V.ref)) ∧ Keyed H bs (ps.map plK) ∧ (∀ q ∈ ps, q ∈ placesOf ks d) ∧ bs.length ≤ 1000 ∧
  ∀ H' t cs, Keep x H H' → H t = none → PartC K H' x dx t s cs (chosen ks d ps) → Q .non H'
/-- Part(shape, place, ..) -/
def spPart (K : PySem.W.Frag) : Sp := fun vs H Q _ => ∃ x dx s bs ks d ps, vs = .ref x :: .ref s :: bs.map V.ref ∧ H x = some (.ins (He.ga K "Part") dx []) ∧ H dx = some (.own x) ∧ ShapeAt K H s ks d ∧ Keyed H bs (ps.map plK) ∧ (∀ q ∈ ps, q ∈ placesOf ks d) ∧ bs.length ≤ 1000 ∧
  ∀ H' t cs, Keep x H H' → H t = none → PartC K H' x dx t s cs (chosen ks d ps) → Q .non H'
def paFs1 (s : Addr) : List (Str × V) := [("shape", .ref s)]
section
variable {P : Program} {w : World} {K : PySem.W.Frag} {mg : Str → Option Value} {base : Heap} {fd : FuncData}
theorem ok_part_init (T : Top w K mg) (D_check_shape_parts : DefX (L2.CX P w) P w K mg base "check_shape_parts" 3 ["shape"] (spIns K "Shape")) (D_check_places : DefX (L2.CX P w) P w K mg base "check_places" 4 ["shape", "places"] (spPlaces K)) {f : Addr} (F : FunD K "__init__" "Part.__init__" (defArgs s_Part_init) (defBody s_Part_init) (defScope s_Part_init) [] [] f fd) : FnR P w K mg base CX0 6 f (spPart K) := by
  refine FnR.imp (starOk2 (p1 := "self") (p2 := "shape") (pv := "places") (sp := spPartIn K) (k := 5) F sc_Part_init StX.cxUp_none (fun _ _ _ _ _ _ _ _ => rfl) (fun _ _ _ _ _ _ _ _ _ _ => rfl) (fun cdv A outer s H vs Q E hr h => ?_)) (fun vs H Q E h => ?_)
  · obtain ⟨x, dx, sa, p, bs, ks, d, ps, rfl, hx, hdx, s0, hp, kd, mem, few, k⟩ := h
    have hu := hr.units
    refine ⟨_, PSs.nox (pss_cons (ps_expr (pe_callX D_check_shape_parts (hr.mono (by decide)) rfl pass_E0 (pa_cons (pv 1) pa_nil)))
      (pss_cons (ps_expr (pe_callX D_check_places (hr.mono (by decide)) rfl pass_E0 (pa_cons (pv 1) (pa_cons (pv 2) pa_nil))))
      (pss_cons (ps_set (i := 3) sc_Part_init.nd rfl (by first | exact Or.inl rfl | exact Or.inr rfl) (pe_dcT (own := [("place", 4)]) (g := gName 4) (tt := tYes) (Nat.lt_of_le_of_lt (Nat.le_add_right _ _) hu) (by rfl) sc_Part_init.nd (pi_sqK (K := K) rfl (pv 2)) (blkOk_by (own := [("place", 4)]) (N := ["self", "shape", "places", "held", "place"]) (sc := defScope s_Part_init) (by decide +kernel)) (fun _ _ _ _ _ => by exact (pg_name (i := 4) sc_Part_init.nd rfl (by first | exact Or.inl rfl | exact Or.inr rfl))) (fun _ _ _ _ _ => by exact pts_nil) (fun _ _ _ _ _ => by exact (pv 4)) (fun _ _ _ _ _ => by exact pe_bl)))
      (pss_cons (ps_fld (pv 0) (pv 1) rfl)
      (pss_one (ps_fld (pv 0) (pe_callTy call_tuple_of rfl T.n_tuple (by decide +kernel) (pa_cons (pe_lc (own := [("place", 4)]) (g := gName 4) (by rfl) sc_Part_init.nd (pi_sqK (K := K) rfl (pe_fldK (K := K) rfl (pv 1) rfl)) (blkOk_by (own := [("place", 4)]) (N := ["self", "shape", "places", "held", "place"]) (sc := defScope s_Part_init) (by decide +kernel)) (fun _ _ _ _ _ => by exact (pg_name (i := 4) sc_Part_init.nd rfl (by first | exact Or.inl rfl | exact Or.inr rfl))) (fun _ _ _ _ _ => by exact (pts_one (pt_cmp (pc_din (Nat.lt_of_le_of_lt (Nat.add_le_add_left (by decide) _) hu) (pv 4) (pv 3)) rfl))) (fun _ _ _ _ _ => by exact (pv 4))) pa_nil)) rfl)))))), ?_⟩
    refine ⟨_, rfl, sa, rfl, s0.ins, ?_⟩
    refine ⟨_, rfl, _, rfl, sa, p, ks, d, bs, rfl, s0, .inl (SqT.of hp), fun b hb => ?_, ?_⟩
    · obtain ⟨i, hi⟩ := List.mem_iff_getElem?.mp hb
      have lt := (List.getElem?_eq_some_iff.mp hi).1
      have lp : i < ps.length := by rw [kd.1, List.length_map] at lt; exact lt
      exact ⟨ps[i], mem _ (List.getElem_mem lp), kd.2 i b (plK ps[i]) hi (by rw [List.getElem?_map, List.getElem?_eq_getElem lp]; rfl)⟩
    have ne : dx ≠ x := fun z => by rw [z, hx] at hdx; cases hdx
    have npx : p ≠ x := fun z => by rw [z, hx] at hp; cases hp
    -- held
    with_reducible refine setsU ?_
    refine dc_pure (j := 4) (fun _ => true) (fun _ => .bl true) (.inl (SqT.of hp)) kd (by rw [sizeLine_eq]; omega) (by show 4 < 5; decide) (fun R r => ⟨_, rfl, r⟩) (fun b key _ _ H1 Q' s q => q) (fun b key _ _ _ H1 Q' s q => q) fun D hD => ?_
    rw [filt_all]
    have s1 := same_new (o := .dT (mergeT [] ((ps.map plK).map fun k => (k, V.bl true)))) hD
    have eD : (upd H D (.dT (mergeT [] ((ps.map plK).map fun k => (k, V.bl true))))) D = some (.dT (mergeT [] ((ps.map plK).map fun k => (k, V.bl true)))) := upd_same
    generalize upd H D (.dT (mergeT [] ((ps.map plK).map fun k => (k, V.bl true)))) = H1 at s1 eD ⊢
    -- shape
    with_reducible refine sfldsU ?_
    have hx1 := s1 _ _ hx
    refine ⟨_, rfl, _, rfl, x, _, dx, [], rfl, hx1, T.k_Part, T.a_Part_shape, (by decide : (0 : Nat) < 1000), ?_⟩
    show sFld _ _ _ _ _ _ (upd H1 x (.ins _ dx (paFs1 sa)))
    have k2 : Keep x H (upd H1 x (.ins (He.ga K "Part") dx (paFs1 sa))) := keep_up (Keep.of s1) hx
    have hx2 : (upd H1 x (.ins (He.ga K "Part") dx (paFs1 sa))) x = some (.ins (He.ga K "Part") dx (paFs1 sa)) := upd_same
    have nDx : D ≠ x := fun z => by rw [z, hx1] at eD; cases eD
    have eD2 : (upd H1 x (.ins (He.ga K "Part") dx (paFs1 sa))) D = some (.dT (mergeT [] ((ps.map plK).map fun k => (k, V.bl true)))) := (upd_ne nDx).trans eD
    have s02 : ShapeAt K (upd H1 x (.ins (He.ga K "Part") dx (paFs1 sa))) sa ks d := by
      obtain ⟨e1, t1, t2, t3, cs, c⟩ := s0.core
      have keep : ∀ {b : Addr} {o : HO}, H b = some o → (∀ y z u, o ≠ .ins y z u) → (upd H1 x (.ins (He.ga K "Part") dx (paFs1 sa))) b = some o := fun {b o} e n => k2 b o (fun z => by rw [z, hx] at e; exact n _ _ _ (Option.some.inj e).symm) e
      have kr : ∀ {b : Addr} {o : HO}, Rd H b o → (∀ y z u, o ≠ .ins y z u) → Rd (upd H1 x (.ins (He.ga K "Part") dx (paFs1 sa))) b o := fun {b o} e n => by
        rcases e with e | ⟨od, e⟩
        · exact .inl (keep e n)
        · exact .inr ⟨od, keep e fun _ _ _ z => nomatch z⟩
      have nsa : sa ≠ x := fun z => by
        have := c.obj
        rw [z, hx] at this
        injection this with this
        injection this with _ _ w3
        cases w3
      exact ShapeC.at_ ⟨k2 _ _ nsa c.obj, keep c.own fun _ _ _ z => (nomatch z), kr c.names (fun _ _ _ z => (nomatch z)), kr c.places (fun _ _ _ z => (nomatch z)), c.len, fun i q b hq hb => keep (c.each i q b hq hb) fun _ _ _ z => (nomatch z), kr c.index fun _ _ _ z => (nomatch z), c.good, c.ok⟩
    generalize upd H1 x (.ins (He.ga K "Part") dx (paFs1 sa)) = H2 at k2 hx2 eD2 s02 ⊢
    clear s1 eD hx1
    -- places
    with_reducible refine sfldU ?_
    with_reducible refine cb1U ?_
    obtain ⟨e1, t1, t2, t3, cs, c⟩ := s02.core
    have lcs : cs.length ≤ 36 := by rw [c.len, length_places]; exact c.ok.few
    refine lc_sel (j := 4) (fun key => decide (plOf key ∈ ps)) (.inl (.inl c.places)) c.keyed (by rw [sizeLine_eq]; omega) (by show 4 < 5; decide) (fun R r => ⟨_, rfl, sa, _, e1, _, _, rfl, c.obj, T.k_Shape, T.a_Shape_places, rfl, r⟩) (fun b key hk hb H3 Q' s3 q => ?_) fun D2 es hD2 kes => ?_
    · obtain ⟨pl, _, rfl⟩ := List.mem_map.mp hk
      rw [plOf_plK] at q
      refine ⟨_, rfl, _, rfl, D, _, rfl, .inr ⟨_, plK pl, b, .inl (s3 _ _ eD2), rfl, s3 _ _ hb, rfl⟩, _, rfl, ?_⟩
      rw [has_keys]
      exact q
    rw [filter_plK (placesOf ks d) (fun p => decide (p ∈ ps))] at kes
    refine ⟨D2, es.map V.ref, rfl, .inl ⟨.inl (.inl upd_same), fun t ht => ?_⟩⟩
    have s4 := (same_new hD2).trans (same_new (o := .tup (es.map V.ref)) ht)
    have et : (upd (upd H2 D2 (.lst (es.map V.ref))) t (.tup (es.map V.ref))) t = some (.tup (es.map V.ref)) := upd_same
    generalize upd (upd H2 D2 (.lst (es.map V.ref))) t (.tup (es.map V.ref)) = H4 at s4 et ⊢
    have hx4 := s4 _ _ hx2
    have nt : t ≠ x := fun z => by rw [z, hx4] at et; cases et
    refine ⟨_, rfl, x, _, dx, paFs1 sa, rfl, hx4, T.k_Part, T.a_Part_places, (by decide : (1 : Nat) < 1000), ?_⟩
    have k5 : Keep x H (upd H4 x (.ins (He.ga K "Part") dx [("shape", .ref sa), ("places", .ref t)])) := keep_up (k2.trans (Keep.of s4)) hx
    have nht : H t = none := by
      have z := (same_new (o := .lst (es.map V.ref)) hD2).free ht
      cases c : H t with
      | none => rfl
      | some o =>
        have := k2 t o nt c
        rw [z] at this
        cases this
    refine k _ t es k5 nht ⟨upd_same, k5 _ _ ne hdx, .inl (.inl ((upd_ne nt).trans et)), kes.1, fun i b key hb hk => ?_⟩
    have z := s4 _ _ (kes.2 i b key hb hk)
    have n : b ≠ x := fun y => by rw [y, hx4] at z; cases z
    exact (upd_ne n).trans z
  · obtain ⟨x, dx, s, bs, ks, d, ps, rfl, hx, hdx, s0, kd, mem, few, k⟩ := h
    refine ⟨_, _, bs.map V.ref, rfl, by rw [List.length_map, sizeLine_eq]; omega, fun p hp => ?_⟩
    have sn := same_new (o := .tup (bs.map V.ref)) hp
    exact ⟨x, dx, s, p, bs, ks, d, ps, rfl, sn _ _ hx, sn _ _ hdx, s0.kp (.of sn), upd_same, kd.same sn, mem, few, fun H' t cs kp ht pc => k H' t cs ((Keep.of sn).trans kp) (sn.free ht) pc⟩
end
end L2.K19
set_option Elab.async false
set_option linter.all false
set_option maxRecDepth 100000
set_option maxHeartbeats 4000000
/-! Tables and questions made. -/
namespace L2.K19
open PySem PySem.Spec PyProof.Rows L2.RV
/-- the weight at p is not nought -/
def nz (ws : List (Pl × Int)) (p : Pl) : Bool := !decide (V.int (atD ws p) = V.int 0)
/-- what a table or a question keeps of them -/
def bare (ks : List Str) (d : Nat) (ws : List (Pl × Int)) : List (Pl × Int) := ((placesOf ks d).filter (nz ws)).map fun p => (p, atD ws p)
theorem valV_nz {ws : List (Pl × Int)} {p : Pl} (h : nz ws p = true) : valV (plD ws) (plK p) = some (V.int (atD ws p)) := by
  have z := valV_plD (p := p) ws
  cases c : valV (plD ws) (plK p) with
  | none =>
    rw [c] at z
    unfold nz at h
    rw [← z] at h
    exact absurd h (by decide)
  | some v =>
    rw [c] at z
    rw [← z]
    rfl
theorem plD_bare {ks : List Str} {d : Nat} (ok : ShOk ks d) (ws : List (Pl × Int)) : mergeT [] ((((placesOf ks d).map plK).filter (fun k => nz ws (plOf k))).map fun k => (k, V.int (atD ws (plOf k)))) = plD (bare ks d ws) := by
  rw [filter_plK, List.map_map, mergeT_new]
  · unfold plD bare
    rw [List.map_map, List.nil_append]
    refine List.map_congr_left fun p _ => ?_
    show (plK p, V.int (atD ws (plOf (plK p)))) = (plK p, V.int (atD ws p))
    rw [plOf_plK]
  · rw [List.map_map]
    have e : ((fun (x : List L2.Key × V) => x.1) ∘ ((fun k => (k, V.int (atD ws (plOf k)))) ∘ plK)) = plK := rfl
    rw [e]
    exact nodup_plK ((nodup_places d ok.nd).sublist List.filter_sublist)
  · exact fun _ _ _ h => absurd h List.not_mem_nil
/-- a table -/
structure TabC (K : PySem.W.Frag) (H : Hp) (a dx t s : Addr) (ws : List (Pl × Int)) : Prop where
  obj : H a = some (.ins (He.ga K "Table") dx [("shape", .ref s), ("amounts", .ref t)])
  own : H dx = some (.own a)
  dic : H t = some (.dT (plD ws))
theorem TabC.held {K : PySem.W.Frag} {H : Hp} {a dx t s : Addr} {ws : List (Pl × Int)} (c : TabC K H a dx t s ws) : Held K H "Table" "amounts" a s ws := ⟨dx, _, t, c.obj, rfl, rfl, .inl c.dic⟩
theorem TabC.of {K : PySem.W.Frag} {H : Hp} {a dx t s : Addr} {ws : List (Pl × Int)} (c : TabC K H a dx t s ws) : OfShape K H "Table" a s := ⟨dx, _, c.obj, rfl⟩
theorem TabC.kx {K : PySem.W.Frag} {E : Addr → Prop} {H H' : Hp} {a dx t s : Addr} {ws : List (Pl × Int)} (c : TabC K H a dx t s ws) (k : Kx E H H') (n : ¬ E t) : TabC K H' a dx t s ws :=
  ⟨k.kp.fix _ _ True.intro c.obj, k.kp.fix _ _ True.intro c.own, k.ex _ _ n c.dic⟩
theorem Held.kp {K : PySem.W.Frag} {H H' : Hp} {x f : Str} {a s : Addr} {ws : List (Pl × Int)} (h : Held K H x f a s ws) (k : Kp0 H H') : Held K H' x f a s ws := by
  obtain ⟨dx, fs, t, e1, e2, e3, e4⟩ := h
  exact ⟨dx, fs, t, k.fix _ _ True.intro e1, e2, e3, k.dt _ _ id e4⟩
/-- a question -/
structure QueC (K : PySem.W.Frag) (H : Hp) (a dx t pt s pdx ptt : Addr) (bs : List Addr) (ws : List (Pl × Int)) (ps : List Pl) : Prop where
  obj : H a = some (.ins (He.ga K "Question") dx [("shape", .ref s), ("weights", .ref t), ("part", .ref pt)])
  own : H dx = some (.own a)
  dic : H t = some (.dT (plD ws))
  part : PartC K H pt pdx ptt s bs ps
theorem QueC.held {K : PySem.W.Frag} {H : Hp} {a dx t pt s pdx ptt : Addr} {bs : List Addr} {ws : List (Pl × Int)} {ps : List Pl} (c : QueC K H a dx t pt s pdx ptt bs ws ps) : Held K H "Question" "weights" a s ws := ⟨dx, _, t, c.obj, rfl, rfl, .inl c.dic⟩
theorem QueC.of {K : PySem.W.Frag} {H : Hp} {a dx t pt s pdx ptt : Addr} {bs : List Addr} {ws : List (Pl × Int)} {ps : List Pl} (c : QueC K H a dx t pt s pdx ptt bs ws ps) : OfShape K H "Question" a s := ⟨dx, _, c.obj, rfl⟩
theorem QueC.kx {K : PySem.W.Frag} {E : Addr → Prop} {H H' : Hp} {a dx t pt s pdx ptt : Addr} {bs : List Addr} {ws : List (Pl × Int)} {ps : List Pl} (c : QueC K H a dx t pt s pdx ptt bs ws ps) (k : Kx E H H') (n : ¬ E t) : QueC K H' a dx t pt s pdx ptt bs ws ps :=
  ⟨k.kp.fix _ _ True.intro c.obj, k.kp.fix _ _ True.intro c.own, k.ex _ _ n c.dic, c.part.kp k.kp⟩
/-- a shape stays where the fields of another object are stored -/
theorem ShapeAt.sto {K : PySem.W.Frag} {H H' : Hp} {x dx s : Addr} {C : Addr} {fs : List (Str × V)} {ks : List Str} {d : Nat} (s0 : ShapeAt K H s ks d) (hx : H x = some (.ins C dx fs)) (k : Keep x H H') (ne : s ≠ x) : ShapeAt K H' s ks d := by
  obtain ⟨e1, t1, t2, t3, cs, c⟩ := s0.core
  have keep : ∀ {b : Addr} {o : HO}, H b = some o → (∀ y z u, o ≠ .ins y z u) → H' b = some o := fun {b o} e n => k b o (fun z => by rw [z, hx] at e; exact n _ _ _ (Option.some.inj e).symm) e
  have kr : ∀ {b : Addr} {o : HO}, Rd H b o → (∀ y z u, o ≠ .ins y z u) → Rd H' b o := fun {b o} e n => by
    rcases e with e | ⟨od, e⟩
    · exact .inl (keep e n)
    · exact .inr ⟨od, keep e fun _ _ _ z => nomatch z⟩
  exact ShapeC.at_ ⟨k _ _ ne c.obj, keep c.own fun _ _ _ z => (nomatch z), kr c.names (fun _ _ _ z => (nomatch z)), kr c.places (fun _ _ _ z => (nomatch z)), c.len, fun i q b hq hb => keep (c.each i q b hq hb) fun _ _ _ z => (nomatch z), kr c.index fun _ _ _ z => (nomatch z), c.good, c.ok⟩
theorem ShapeAt.nex {K : PySem.W.Frag} {H : Hp} {x dx s : Addr} {C : Addr} {ks : List Str} {d : Nat} (s0 : ShapeAt K H s ks d) (hx : H x = some (.ins C dx [])) : s ≠ x := fun z => by
  obtain ⟨e1, t1, t2, t3, cs, c⟩ := s0.core
  have := c.obj
  rw [z, hx] at this
  injection this with this
  injection this with _ _ w3
  cases w3
/-- Table.__init__ -/
def spTable (K : PySem.W.Frag) : Sp := fun vs H Q _ => ∃ x dx s y ks d ws, vs = [.ref x, .ref s, y] ∧ H x = some (.ins (He.ga K "Table") dx []) ∧ H dx = some (.own x) ∧ ShapeAt K H s ks d ∧ ((y = .non ∧ ws = []) ∨ ∃ t, y = .ref t ∧ H t = some (.dT (plD ws))) ∧ (∀ z ∈ ws, z.1 ∈ placesOf ks d) ∧
  ∀ H' t, Keep x H H' → H t = none → TabC K H' x dx t s (bare ks d ws) → Q .non H'
section
variable {P : Program} {w : World} {K : PySem.W.Frag} {mg : Str → Option Value} {base : Heap} {fd : FuncData}
end
end L2.K19
set_option Elab.async false
set_option linter.all false
set_option maxRecDepth 100000
set_option maxHeartbeats 4000000
/-! Questions made. -/
namespace L2.K19
open PySem PySem.Spec PyProof.Rows L2.RV
def nzs (ks : List Str) (d : Nat) (ws : List (Pl × Int)) : List Pl := (placesOf ks d).filter (nz ws)
theorem chosen_nzs (ks : List Str) (d : Nat) (ws : List (Pl × Int)) : chosen ks d (nzs ks d ws) = nzs ks d ws := by
  unfold chosen nzs
  refine List.filter_congr fun p hp => ?_
  cases c : nz ws p with
  | true => exact decide_eq_true (List.mem_filter.mpr ⟨hp, c⟩)
  | false => exact decide_eq_false fun z => by rw [(List.mem_filter.mp z).2] at c; cases c
theorem bare_nzs (ks : List Str) (d : Nat) (ws : List (Pl × Int)) : bare ks d ws = (nzs ks d ws).map fun p => (p, atD ws p) := rfl
/-- Question.__init__ -/
def spQuestion (K : PySem.W.Frag) : Sp := fun vs H Q _ => ∃ x dx s t ks d ws, vs = [.ref x, .ref s, .ref t] ∧ H x = some (.ins (He.ga K "Question") dx []) ∧ H dx = some (.own x) ∧ ShapeAt K H s ks d ∧ H t = some (.dT (plD ws)) ∧ (∀ z ∈ ws, z.1 ∈ placesOf ks d) ∧
  ∀ H' t' pt pdx ptt bs, Keep x H H' → H t' = none → QueC K H' x dx t' pt s pdx ptt bs (bare ks d ws) (nzs ks d ws) → Q .non H'
def quFs2 (s t : Addr) : List (Str × V) := [("shape", .ref s), ("weights", .ref t)]
theorem free_keep {H H2 : Hp} {x D : Addr} (k : Keep x H H2) (n : D ≠ x) (h : H2 D = none) : H D = none := by
  cases c : H D with
  | none => rfl
  | some o =>
    have := k D o n c
    rw [h] at this
    cases this
section
variable {P : Program} {w : World} {K : PySem.W.Frag} {mg : Str → Option Value} {base : Heap} {fd : FuncData}
theorem ok_question_init (T : Top w K mg) (D_check_shape_questions : DefX (L2.CX P w) P w K mg base "check_shape_questions" 3 ["shape"] (spIns K "Shape")) (D_check_amounts : DefX (L2.CX P w) P w K mg base "check_amounts" 4 ["shape", "amounts"] (spAmounts K)) (C_Part : MakeR CX0 P w K mg base "Part" (He.ga K "Part") 6 (spPart K)) (R_BadQuestion : RzX P w K mg base "BadQuestion" (ca K 6) ["part"]) {f : Addr} (F : FunD K "__init__" "Question.__init__" (defArgs s_Question_init) (defBody s_Question_init) (defScope s_Question_init) [] [] f fd) : FnOk P w K mg base (L2.CX P w) 8 f fd ["self", "shape", "weights"] (spQuestion K) := by
  refine F.ok sc_Question_init (fun vs H Q E h => ?_) (fun cdv A outer s H vs Q E hr h => ?_)
  · obtain ⟨x, dx, sa, t, ks, d, ws, rfl, _⟩ := h
    rfl
  · obtain ⟨x, dx, sa, t, ks, d, ws, rfl, hx, hdx, s0, et, mem, k⟩ := h
    have hu := hr.units
    refine ⟨_, (pss_cons (ps_expr (pe_callX D_check_shape_questions (hr.mono (by decide)) rfl pass_E0 (pa_cons (pv 1) pa_nil)))
      (pss_cons (ps_if (pt_not (pt_val (pe_callB call_isi rfl T.n_isinstance (by decide +kernel) (pa_cons (pv 2) (pa_cons (pe_bltn (v := .ty "dict") (u := .type "dict") rfl T.n_dict (by decide +kernel) rfl) pa_nil))))) (pss_one (ps_rz R_BadQuestion rfl (hr.mono (by decide)) (takes_of rfl rfl rfl rfl) rfl (pa_cons pe_str pa_nil))) pss_nil)
      (pss_cons (ps_expr (pe_callX D_check_amounts (hr.mono (by decide)) rfl pass_E0 (pa_cons (pv 1) (pa_cons (pv 2) pa_nil))))
      (pss_cons (ps_setLc (i := 3) (own := [("place", 4)]) (g := gName 4) (by rfl) sc_Question_init.nd rfl rfl (sw_true rfl rfl rfl (by decide +kernel)) (pi_sqK (K := K) rfl (pe_fldK (K := K) rfl (pv 1) rfl)) (blkOk_by (own := [("place", 4)]) (N := ["self", "shape", "weights", "places", "place"]) (sc := defScope s_Question_init) (by decide +kernel)) (fun _ _ _ _ _ => by exact (pg_name (i := 4) sc_Question_init.nd rfl (by first | exact Or.inl rfl | exact Or.inr rfl))) (fun _ _ _ _ _ => by exact (pts_one (pt_cmpR (op_diffK (K := K) rfl hu) (pe_dget2 (Nat.lt_of_le_of_lt (Nat.add_le_add_left (by decide) _) hu) (pv 2) (pv 4) pe_int ⟨rfl, rfl, rfl, rfl⟩) pe_int (nomark _)))) (fun _ _ _ _ _ => by exact (pv 4)))
      (pss_cons (ps_fld (pv 0) (pv 1) rfl)
      (pss_cons (ps_fld (pv 0) (pe_dcT (own := [("place", 4)]) (g := gName 4) (tt := tYes) (Nat.lt_of_le_of_lt (Nat.le_add_right _ _) hu) (by rfl) sc_Question_init.nd (pi_sqK (K := K) rfl (pv 3)) (blkOk_by (own := [("place", 4)]) (N := ["self", "shape", "weights", "places", "place"]) (sc := defScope s_Question_init) (by decide +kernel)) (fun _ _ _ _ _ => by exact (pg_name (i := 4) sc_Question_init.nd rfl (by first | exact Or.inl rfl | exact Or.inr rfl))) (fun _ _ _ _ _ => by exact pts_nil) (fun _ _ _ _ _ => by exact (pv 4)) (fun _ _ _ _ _ => by exact (pe_dget (Nat.lt_of_le_of_lt (Nat.add_le_add_left (by decide) _) hu) (pv 2) (pv 4) (fun _ _ => rfl)))) rfl)
      (pss_one (ps_fld (pv 0) (pe_mkRS C_Part (hr.mono (by decide)) rfl pass_CX0 (pa_cons (pv 1) (StX.pa_star (pv 3) pa_nil))) rfl)))))))), ?_⟩
    have ne : dx ≠ x := fun z => by rw [z, hx] at hdx; cases hdx
    have nsx := s0.nex hx
    have ntx : t ≠ x := fun z => by rw [z, hx] at et; cases et
    refine ⟨_, rfl, sa, rfl, s0.ins, ?_⟩
    refine ⟨_, rfl, _, _, _, _, _, rfl, .ty "dict", .base (.dT et), kit_ty (by decide +kernel : kitB "dict" "dict" = some true), _, rfl, ?_⟩
    refine ite2 (fun c => absurd c (by decide)) (fun _ => ?_)
    refine ⟨_, rfl, _, rfl, sa, t, ks, d, ws, rfl, s0, et, mem, ?_⟩
    -- places
    with_reducible refine setsU ?_
    obtain ⟨e1, t1, t2, t3, cs, c⟩ := s0.core
    have lcs : cs.length ≤ 36 := by rw [c.len, length_places]; exact c.ok.few
    refine lc_sel (j := 4) (fun key => nz ws (plOf key)) (.inl (.inl c.places)) c.keyed (by rw [sizeLine_eq]; omega) (by show 4 < 5; decide) (fun R r => ⟨_, rfl, sa, _, e1, _, _, rfl, c.obj, T.k_Shape, T.a_Shape_places, rfl, r⟩) (fun b key hk hb H3 Q' s3 q => ?_) fun L es hL kes => ?_
    · obtain ⟨pl, _, rfl⟩ := List.mem_map.mp hk
      rw [plOf_plK] at q
      refine ⟨_, rfl, t, rfl, .inr ⟨_, .inl (s3 _ _ et)⟩, _, rfl, _, (.inr ⟨_, plK pl, b, .inl (s3 _ _ et), rfl, s3 _ _ hb, rfl⟩), ?_⟩
      rw [valV_plD]
      exact .inl ⟨rfl, _, rfl, q⟩
    rw [filter_plK (placesOf ks d) (nz ws)] at kes
    have les : es.length ≤ 36 := by
      rw [kes.1, List.length_map]
      have z := List.length_filter_le (nz ws) (placesOf ks d)
      have y := c.ok.few
      rw [length_places] at z
      omega
    have s1 := same_new (o := .lst (es.map V.ref)) hL
    have eL : (upd H L (.lst (es.map V.ref))) L = some (.lst (es.map V.ref)) := upd_same
    have kes1 := kes.same s1
    generalize upd H L (.lst (es.map V.ref)) = H1 at s1 eL kes1 ⊢
    have hx1 := s1 _ _ hx
    have nLx : L ≠ x := fun z => by rw [z, hx1] at eL; cases eL
    -- shape
    with_reducible refine sfldsU ?_
    refine ⟨_, rfl, _, rfl, x, _, dx, [], rfl, hx1, T.k_Question, T.a_Question_shape, (by decide : (0 : Nat) < 1000), ?_⟩
    show tSeq _ _ _ _ (upd H1 x (.ins _ dx (paFs1 sa)))
    have k2 : Keep x H (upd H1 x (.ins (He.ga K "Question") dx (paFs1 sa))) := keep_up (Keep.of s1) hx
    have hx2 : (upd H1 x (.ins (He.ga K "Question") dx (paFs1 sa))) x = some (.ins (He.ga K "Question") dx (paFs1 sa)) := upd_same
    have et2 : (upd H1 x (.ins (He.ga K "Question") dx (paFs1 sa))) t = some (.dT (plD ws)) := k2 _ _ ntx et
    have eL2 : (upd H1 x (.ins (He.ga K "Question") dx (paFs1 sa))) L = some (.lst (es.map V.ref)) := (upd_ne nLx).trans eL
    have kes2 : Keyed (upd H1 x (.ins (He.ga K "Question") dx (paFs1 sa))) es ((nzs ks d ws).map plK) := ⟨kes1.1, fun i b key hb hk => by
      have z := kes1.2 i b key hb hk
      have n : b ≠ x := fun y => by rw [y, hx1] at z; cases z
      exact (upd_ne n).trans z⟩
    generalize upd H1 x (.ins (He.ga K "Question") dx (paFs1 sa)) = H2 at k2 hx2 et2 eL2 kes2 ⊢
    clear s1 eL hx1 kes1
    -- weights
    with_reducible refine sfldsU ?_
    refine dc_pure (j := 4) (fun _ => true) (fun key => .int (atD ws (plOf key))) (.inr (SqL.of eL2)) kes2 (by rw [sizeLine_eq]; omega) (by show 4 < 5; decide) (fun R r => ⟨_, rfl, r⟩) (fun b key _ _ H3 Q' s3 q => q) (fun b key hk hb _ H3 Q' s3 q => ?_) fun D hD => ?_
    · obtain ⟨pl, hpl, rfl⟩ := List.mem_map.mp hk
      rw [plOf_plK] at q
      exact ⟨_, rfl, _, rfl, t, _, rfl, .inr ⟨_, plK pl, b, .inl (s3 _ _ et2), rfl, s3 _ _ hb, (valV_nz (List.mem_filter.mp hpl).2).symm⟩, q⟩
    have eq : mergeT [] ((((nzs ks d ws).map plK).filter fun _ => true).map fun k => (k, V.int (atD ws (plOf k)))) = plD (bare ks d ws) := by
      rw [← plD_bare c.ok, filt_all, filter_plK (placesOf ks d) (nz ws)]
      rfl
    rw [eq]
    have s3 := same_new (o := .dT (plD (bare ks d ws))) hD
    have eD3 : (upd H2 D (.dT (plD (bare ks d ws)))) D = some (.dT (plD (bare ks d ws))) := upd_same
    have nh : H D = none := free_keep k2 (fun z => by rw [z, hx2] at hD; cases hD) hD
    generalize upd H2 D (.dT (plD (bare ks d ws))) = H3 at s3 eD3 ⊢
    have hx3 := s3 _ _ hx2
    have nDx : D ≠ x := fun z => by rw [z, hx3] at eD3; cases eD3
    refine ⟨_, rfl, x, _, dx, paFs1 sa, rfl, hx3, T.k_Question, T.a_Question_weights, (by decide : (1 : Nat) < 1000), ?_⟩
    show sFld _ _ _ _ _ _ (upd H3 x (.ins _ dx (quFs2 sa D)))
    have k4 : Keep x H (upd H3 x (.ins (He.ga K "Question") dx (quFs2 sa D))) := keep_up (k2.trans (Keep.of s3)) hx
    have hx4 : (upd H3 x (.ins (He.ga K "Question") dx (quFs2 sa D))) x = some (.ins (He.ga K "Question") dx (quFs2 sa D)) := upd_same
    have eD4 : (upd H3 x (.ins (He.ga K "Question") dx (quFs2 sa D))) D = some (.dT (plD (bare ks d ws))) := (upd_ne nDx).trans eD3
    have eL4 : (upd H3 x (.ins (He.ga K "Question") dx (quFs2 sa D))) L = some (.lst (es.map V.ref)) := (upd_ne nLx).trans (s3 _ _ eL2)
    have sh4 : ShapeAt K (upd H3 x (.ins (He.ga K "Question") dx (quFs2 sa D))) sa ks d := s0.sto hx k4 nsx
    have kes4 : Keyed (upd H3 x (.ins (He.ga K "Question") dx (quFs2 sa D))) es ((nzs ks d ws).map plK) := ⟨kes2.1, fun i b key hb hk => by
      have z := s3 _ _ (kes2.2 i b key hb hk)
      have n : b ≠ x := fun y => by rw [y, hx3] at z; cases z
      exact (upd_ne n).trans z⟩
    generalize upd H3 x (.ins (He.ga K "Question") dx (quFs2 sa D)) = H4 at k4 hx4 eD4 eL4 sh4 kes4 ⊢
    clear k2 hx2 et2 eL2 kes2 s3 eD3 hx3
    -- part
    with_reducible refine sfldU ?_
    refine ⟨_, rfl, _, rfl, L, _, rfl, .inr (SqL.of eL4), fun px pdx npx npdx npd => ?_⟩
    have s5 := (same_new (o := .own px) npdx).trans (same_new (o := .ins (He.ga K "Part") pdx []) (H := upd H4 pdx (.own px)) (by rw [upd_ne (Ne.symm npd)]; exact npx))
    refine ⟨px, pdx, sa, es, ks, d, nzs ks d ws, by rw [List.append_nil], upd_same, (upd_ne npd).trans upd_same, sh4.kp (.of s5), kes4.same s5, fun q hq => (List.mem_filter.mp hq).1, by omega, fun H6 ptt bs k6 _ pc => ⟨rfl, ?_⟩⟩
    rw [chosen_nzs] at pc
    have nxp : x ≠ px := fun z => by rw [← z, hx4] at npx; cases npx
    have hx6 := k6 _ _ nxp (s5 _ _ hx4)
    have nDp : D ≠ px := fun z => by rw [← z, eD4] at npx; cases npx
    have eD6 := k6 _ _ nDp (s5 _ _ eD4)
    refine ⟨_, rfl, x, _, dx, quFs2 sa D, rfl, hx6, T.k_Question, T.a_Question_part, (by decide : (2 : Nat) < 1000), ?_⟩
    have k46 : Keep x H H6 := fun b o n e => by
      have z := s5 _ _ (k4 b o n e)
      have n2 : b ≠ px := fun y => by
        have := k4 b o n e
        rw [y, npx] at this
        cases this
      exact k6 b o n2 z
    have k7 : Keep x H (upd H6 x (.ins (He.ga K "Question") dx [("shape", .ref sa), ("weights", .ref D), ("part", .ref px)])) := keep_up k46 hx
    have pn : px ≠ x := Ne.symm nxp
    have pc7 : PartC K (upd H6 x (.ins (He.ga K "Question") dx [("shape", .ref sa), ("weights", .ref D), ("part", .ref px)])) px pdx ptt sa bs (nzs ks d ws) := by
      have kk : ∀ {b : Addr} {o : HO}, H6 b = some o → (∀ y z u, o ≠ .ins y z u) → (upd H6 x (.ins (He.ga K "Question") dx [("shape", .ref sa), ("weights", .ref D), ("part", .ref px)])) b = some o := fun {b o} e n => by
        have nb : b ≠ x := fun z => by rw [z, hx6] at e; exact n _ _ _ (Option.some.inj e).symm
        exact (upd_ne nb).trans e
      refine ⟨(upd_ne pn).trans pc.obj, kk pc.own fun _ _ _ z => (nomatch z), pc.places.imp (fun z => ?_) id, pc.keyed.1, fun i b key hb hk => kk (pc.keyed.2 i b key hb hk) fun _ _ _ z => (nomatch z)⟩
      rcases z with z | ⟨od, z⟩
      · exact .inl (kk z fun _ _ _ y => nomatch y)
      · exact .inr ⟨od, kk z fun _ _ _ y => nomatch y⟩
    exact k _ D px pdx ptt bs k7 nh ⟨upd_same, k7 _ _ ne hdx, (upd_ne nDx).trans eD6, pc7⟩
end
end L2.K19
set_option Elab.async false
set_option linter.all false
set_option maxRecDepth 100000
set_option maxHeartbeats 4000000
/-! A question asked; two questions compared. -/
namespace L2.K19
open PySem PySem.Spec PyProof.Rows L2.RV
theorem shapeEq_self {ks : List Str} (d : Nat) (h : (ks.all fun x => PyData.strOk x) = true) : shapeEq ks d ks d = true := by
  unfold shapeEq
  rw [same_data (shaped_keys h)]
  simp
def total (ws am : List (Pl × Int)) : Int := (ws.map fun z => z.2 * atD am z.1).sum
/-- numbers of at most 110 bits -/
def Bits (ws : List (Pl × Int)) : Prop := ∀ z ∈ ws, z.2.natAbs < 2 ^ 110
theorem Bits.at_ {ws : List (Pl × Int)} (b : Bits ws) (p : Pl) : (atD ws p).natAbs < 2 ^ 110 := by
  unfold atD
  cases c : ws.find? fun z => decide (z.1 = p) with
  | none => show (0 : Int).natAbs < 2 ^ 110; decide
  | some z => exact b z (List.mem_of_find?_eq_some c)
/-- an object of x whose dict by places, under f, stands at t and is not locked -/
def HeldX (K : PySem.W.Frag) (H : Hp) (x f : Str) (a s t : Addr) (ws : List (Pl × Int)) : Prop := ∃ dx fs, H a = some (.ins (He.ga K x) dx fs) ∧ fs.lookup ("shape" : Str) = some (V.ref s) ∧ fs.lookup f = some (V.ref t) ∧ H t = some (.dT (plD ws))
theorem HeldX.held {K : PySem.W.Frag} {H : Hp} {x f : Str} {a s t : Addr} {ws : List (Pl × Int)} (h : HeldX K H x f a s t ws) : Held K H x f a s ws := by
  obtain ⟨dx, fs, e1, e2, e3, e4⟩ := h
  exact ⟨dx, fs, t, e1, e2, e3, .inl e4⟩
theorem Held.of {K : PySem.W.Frag} {H : Hp} {x f : Str} {a s : Addr} {ws : List (Pl × Int)} (h : Held K H x f a s ws) : OfShape K H x a s := by
  obtain ⟨dx, fs, t, e1, e2, _⟩ := h
  exact ⟨dx, fs, e1, e2⟩
theorem QueC.hx {K : PySem.W.Frag} {H : Hp} {a dx t pt s pdx ptt : Addr} {bs : List Addr} {ws : List (Pl × Int)} {ps : List Pl} (c : QueC K H a dx t pt s pdx ptt bs ws ps) : HeldX K H "Question" "weights" a s t ws := ⟨dx, _, c.obj, rfl, rfl, c.dic⟩
theorem TabC.hx {K : PySem.W.Frag} {H : Hp} {a dx t s : Addr} {ws : List (Pl × Int)} (c : TabC K H a dx t s ws) : HeldX K H "Table" "amounts" a s t ws := ⟨dx, _, c.obj, rfl, rfl, c.dic⟩
/-- question(table), of one shape -/
def spCall (K : PySem.W.Frag) : Sp := fun vs H Q _ => ∃ q a s t ks d ws am, vs = [.ref q, .ref a] ∧ HeldX K H "Question" "weights" q s t ws ∧ Held K H "Table" "amounts" a s am ∧ ShapeAt K H s ks d ∧ (∀ z ∈ ws, z.1 ∈ placesOf ks d) ∧ ws.length ≤ 36 ∧ Bits ws ∧ Bits am ∧
  ∀ H', Same H H' → Q (.int (total ws am)) H'
/-- question == other, of the same class or of another -/
def spQEq (K : PySem.W.Frag) : Sp := fun vs H Q _ => ∃ q y s ks d ws, vs = [.ref q, y] ∧ Held K H "Question" "weights" q s ws ∧ ShapeAt K H s ks d ∧
  ((∃ u r ls e vs, y = .ref u ∧ Held K H "Question" "weights" u r vs ∧ ShapeAt K H r ls e ∧ (∃ t t', HeldX K H "Question" "weights" q s t ws ∧ HeldX K H "Question" "weights" u r t' vs) ∧ Q (.bl (shapeEq ks d ls e && dtSame (plD ws) (plD vs))) H) ∨
   (∃ t, TyX K H y (.type t) ∧ PySem.W.kitOne K (.type t) (.ref (He.ga K "Question")) = some false ∧ Q (.bl false) H))
theorem ints_plD (ws : List (Pl × Int)) : intsT (plD ws) := fun p hp => by
  unfold plD at hp
  obtain ⟨z, _, rfl⟩ := List.mem_map.mp hp
  exact ⟨z.2, rfl⟩
section
variable {P : Program} {w : World} {K : PySem.W.Frag} {mg : Str → Option Value} {base : Heap} {fd : FuncData}
theorem ok_question_eq (T : Top w K mg) (S_Shape_eq : MethS CX0 P w K mg base (He.ga K "Shape") "__eq__" 2 ["self", "other"] (spShapeEq K)) {f : Addr} (F : FunD K "__eq__" "Question.__eq__" (defArgs s_Question_eq) (defBody s_Question_eq) (defScope s_Question_eq) [] [] f fd) : FnOk P w K mg base CX0 4 f fd ["self", "other"] (spQEq K) := by
  refine F.ok sc_Question_eq (fun vs H Q E h => ?_) (fun cdv A outer s H vs Q E hr h => ?_)
  · obtain ⟨q, y, sa, ks, d, ws, rfl, _⟩ := h
    rfl
  · obtain ⟨q, y, sa, ks, d, ws, rfl, hq, s0, h⟩ := h
    have hu := hr.units
    refine ⟨_, PSs.nox (pss_one (ps_ret (pe_and (pe_callB call_isi rfl T.n_isinstance (by decide +kernel) (pa_cons (pv 1) (pa_cons (pe_glob (v := .ref (He.ga K "Question")) rfl T.g_Question rfl) pa_nil))) (pe_and (pe_cmpR (op_eqO S_Shape_eq (hr.mono (by decide)) pass_CX0) (pe_fldK (K := K) rfl (pv 0) rfl) (pe_fldK (K := K) rfl (pv 1) rfl) (nomark _)) (pe_one (pe_cmpR (op_eqT (Nat.lt_of_le_of_lt (Nat.add_le_add_left (by decide) _) hu)) (pe_fldK (K := K) rfl (pv 0) rfl) (pe_fldK (K := K) rfl (pv 1) rfl) (nomark _))))))), ?_⟩
    rcases h with ⟨u, r, ls, e, vs, rfl, hv, s1, ⟨t, t', hx, hx'⟩, k⟩ | ⟨t, ty, kt, k⟩
    · obtain ⟨ty, kt⟩ := ins_kit T.o_Question T.o_Question T.k_Question hv.of.ins (by decide)
      refine ⟨_, rfl, _, _, _, _, _, rfl, .own _, ty, kt, _, rfl, ?_⟩
      obtain ⟨dx, fs, e1, e2, e3, e4⟩ := hx
      obtain ⟨dy, gs, g1, g2, g3, g4⟩ := hx'
      obtain ⟨dz, hs, i1⟩ := s0.ins
      obtain ⟨ty2, _⟩ := ins_kit T.o_Shape T.o_Shape T.k_Shape s1.ins (by decide)
      refine ⟨_, rfl, q, _, dx, _, _, rfl, e1, T.k_Question, T.a_Question_shape, e2, _, rfl, u, _, dy, _, _, rfl, g1, T.k_Question, T.a_Question_shape, g2, sa, dz, hs, _, rfl, i1, ty2, (T.o_Shape.kit "Shape" (by decide)).2, ?_⟩
      refine ⟨sa, r, ks, d, ls, e, rfl, s0, s1, _, rfl, ?_⟩
      cases c : shapeEq ks d ls e with
      | false =>
        rw [c] at k
        exact k
      | true =>
        rw [c, Bool.true_and] at k
        exact ⟨_, rfl, q, _, dx, _, _, rfl, e1, T.k_Question, T.a_Question_weights, e3, _, rfl, u, _, dy, _, _, rfl, g1, T.k_Question, T.a_Question_weights, g3, t, t', _, _, rfl, rfl, e4, g4, ints_plD _, ints_plD _, k⟩
    · exact ⟨_, rfl, _, _, _, _, _, rfl, .own _, ty, kt, _, rfl, k⟩
end
end L2.K19
set_option Elab.async false
set_option linter.all false
set_option maxRecDepth 100000
set_option maxHeartbeats 4000000
/-! Parts and questions made of others. -/
namespace L2.K19
open PySem PySem.Spec PyProof.Rows L2.RV
theorem made_same {H H' : Hp} {x dx : Addr} {o : HO} (nx : H x = none) (ndx : H dx = none) (k : Keep x (upd (upd H dx (.own x)) x o) H') : Same H H' := fun b ob e => by
  have n1 : b ≠ x := ne_of_none e nx
  have n2 : b ≠ dx := ne_of_none e ndx
  exact k b ob n1 ((upd_ne n1).trans ((upd_ne n2).trans e))
theorem made_free {H : Hp} {x dx t : Addr} {o : HO} (h : (upd (upd H dx (.own x)) x o) t = none) : H t = none := by
  by_cases n1 : t = x
  · rw [n1, upd_same] at h
    cases h
  · rw [upd_ne n1] at h
    by_cases n2 : t = dx
    · rw [n2, upd_same] at h
      cases h
    · rw [upd_ne n2] at h
      exact h
theorem made_mid {H : Hp} {x dx : Addr} {o : HO} (nx : H x = none) (ndx : H dx = none) : Same H (upd (upd H dx (.own x)) x o) := fun b ob e => (upd_ne (ne_of_none e nx)).trans ((upd_ne (ne_of_none e ndx)).trans e)
theorem chosen_nil (ks : List Str) (d : Nat) : chosen ks d [] = [] := by
  unfold chosen
  rw [List.filter_eq_nil_iff]
  intro p _
  simp
/-- Part.none(shape) -/
def spPartNone (K : PySem.W.Frag) : Sp := fun vs H Q _ => ∃ s ks d, vs = [.ref s] ∧ ShapeAt K H s ks d ∧ ∀ H' x dx t cs, Same H H' → PartC K H' x dx t s cs [] → Q (.ref x) H'
/-- part | other, of one shape -/
def spPartOr (K : PySem.W.Frag) : Sp := fun vs H Q _ => ∃ a b s ks d dxa ta bsa ps dxb tb bsb qs, vs = [.ref a, .ref b] ∧ PartC K H a dxa ta s bsa ps ∧ PartC K H b dxb tb s bsb qs ∧ ShapeAt K H s ks d ∧ (∀ p ∈ ps, p ∈ placesOf ks d) ∧ (∀ p ∈ qs, p ∈ placesOf ks d) ∧ ps.length ≤ 40 ∧ qs.length ≤ 40 ∧
  ∀ H' x dx t cs, Same H H' → PartC K H' x dx t s cs (chosen ks d (ps ++ qs)) → Q (.ref x) H'
/-- Question.of(part) -/
def spQOf (K : PySem.W.Frag) : Sp := fun vs H Q _ => ∃ a s ks d dxa ta bsa ps, vs = [.ref a] ∧ PartC K H a dxa ta s bsa ps ∧ ShapeAt K H s ks d ∧ (∀ p ∈ ps, p ∈ placesOf ks d) ∧ ps.Nodup ∧ ps.length ≤ 40 ∧
  ∀ H' x dx t pt pdx ptt bs, Same H H' → H t = none → QueC K H' x dx t pt s pdx ptt bs (bare ks d (ps.map fun p => (p, 1))) (nzs ks d (ps.map fun p => (p, 1))) → Q (.ref x) H'
/-- Question.none(shape) -/
def spQNone (K : PySem.W.Frag) : Sp := fun vs H Q _ => ∃ s ks d, vs = [.ref s] ∧ ShapeAt K H s ks d ∧ ∀ H' x dx t pt pdx ptt bs, Same H H' → H t = none → QueC K H' x dx t pt s pdx ptt bs (bare ks d []) (nzs ks d []) → Q (.ref x) H'
theorem plD_ones {ps : List Pl} (nd : ps.Nodup) : mergeT [] (((ps.map plK).filter fun _ => true).map fun k => (k, V.int 1)) = plD (ps.map fun p => (p, 1)) := by
  rw [filt_all, List.map_map, mergeT_new]
  · unfold plD
    rw [List.map_map, List.nil_append]
    rfl
  · rw [List.map_map]
    exact nodup_plK nd
  · exact fun _ _ _ h => absurd h List.not_mem_nil
section
variable {P : Program} {w : World} {K : PySem.W.Frag} {mg : Str → Option Value} {base : Heap} {fd : FuncData}
end
end L2.K19
set_option Elab.async false
set_option linter.all false
set_option maxRecDepth 100000
set_option maxHeartbeats 4000000
/-! Digits and what they count; a number written in pieces. -/
namespace L2.RV
open PySem PySem.Spec PyProof.Rows NumText TL
theorem val_app (a b : List Nat) : digitsVal (a ++ b) = digitsVal a * 10 ^ b.length + digitsVal b := by
  have key : ∀ n (b : List Nat), b.length = n → digitsVal (a ++ b) = digitsVal a * 10 ^ b.length + digitsVal b := by
    intro n
    induction n with
    | zero =>
      intro b h
      rw [List.length_eq_zero_iff.mp h, List.append_nil]
      show _ = digitsVal a * 1 + 0
      omega
    | succ n ih =>
      intro b h
      have ne : b ≠ [] := fun q => by rw [q] at h; cases h
      obtain ⟨c, e, rfl⟩ : ∃ c e, b = c ++ [e] := ⟨b.dropLast, b.getLast ne, (List.dropLast_concat_getLast ne).symm⟩
      have hc : c.length = n := by rw [List.length_append] at h; exact Nat.succ.inj h
      rw [← List.append_assoc, digitsVal_snoc, ih c hc, digitsVal_snoc, List.length_append, Nat.pow_add, Nat.add_mul, Nat.mul_assoc]
      show _ = digitsVal a * (10 ^ c.length * 10) + _
      omega
  exact key _ b rfl
theorem numL_of {cs : List Nat} (h : AllDigits cs) (ne : cs ≠ []) (lead : cs.length = 1 ∨ ∃ c r, cs = c :: r ∧ 49 ≤ c) : numL (digitsVal cs) = cs := by
  obtain ⟨n, hn⟩ : ∃ n, cs.length = n + 1 := ⟨cs.length - 1, by have := List.length_pos_iff.mpr ne; omega⟩
  unfold numL
  rw [toDigits_digitsVal n cs hn h (by
    rcases lead with l | l
    · exact .inl (by omega)
    · exact .inr l), List.map_map]
  have e : ∀ c ∈ cs, (Char.toNat ∘ Char.ofNat) c = c := fun c hc => by
    have r := h c hc
    have : ∀ c : Nat, c < 58 → (Char.ofNat c).toNat = c := by decide
    exact this c (by omega)
  rw [List.map_congr_left e]
  exact List.map_id' cs
theorem val_zeros (k : Nat) (cs : List Nat) : digitsVal (List.replicate k 48 ++ cs) = digitsVal cs := by
  induction k with
  | zero => rfl
  | succ k ih => rw [List.replicate_succ, List.cons_append, digitsVal_zero, ih]
end L2.RV
set_option Elab.async false
set_option linter.all false
set_option maxRecDepth 100000
set_option maxHeartbeats 4000000
/-! Floor division by a number that is not nought and of at most 9,000 bits. -/
namespace L2.RV
open PySem PySem.Spec PyProof.Rows
def DivX (_ j : Int) : Prop := j ≠ 0 ∧ j.natAbs.log2 < 9000
theorem op_fdivX {X : Cx} : OpR X (binaryOp .FloorDiv) (rI DivX fun i j => .int (i.fdiv j)) := opI fun _ _ _ _ _ _ _ hc q => floordiv_int hc.1 q (.inl (PyProof.noPylong_of_log2 hc.2))
theorem divX {i j : Int} {b : Nat} (h : j ≠ 0) (hb : j.natAbs < 2 ^ b) (h0 : 0 < b) (h9 : b ≤ 9000) : DivX i j := ⟨h, Nat.lt_of_lt_of_le (PySem.Flt.log2_lt_of h0 hb) h9⟩
end L2.RV
set_option Elab.async false
set_option linter.all false
set_option maxRecDepth 100000
set_option maxHeartbeats 4000000
/-! A number written: its decimal digits. -/
namespace L2.K19
open PySem PySem.Spec PyProof.Rows L2.RV NumText TL
/-- whole_text(number): the very digits -/
def spWhEx : Sp := fun vs H Q _ => ∃ n : Int, vs = [.int n] ∧ n.natAbs < 10 ^ 600 ∧ ∀ H', Same H H' → Q (.str (Str.ofString (toString n))) H'
theorem str_ext {x y : Str} (h : tl x = tl y) : x = y := by
  obtain ⟨⟨x⟩⟩ := x
  obtain ⟨⟨y⟩⟩ := y
  cases h
  rfl
theorem tl_neg (m : Nat) : tl (Str.ofString (toString (-((m + 1 : Nat) : Int)))) = 45 :: numL (m + 1) := by
  have e : (toString (-((m + 1 : Nat) : Int)) : String) = "-" ++ toString (m + 1) := rfl
  have e2 := tl_num (m + 1)
  rw [tl_ofString] at e2 ⊢
  rw [e, String.toList_append, List.map_append]
  show 45 :: (toString (m + 1)).toList.map Char.toNat = _
  rw [← e2]
  rfl
theorem tl_int (n : Int) : tl (Str.ofString (toString n)) = if n < 0 then 45 :: numL n.natAbs else numL n.natAbs := by
  rcases Int.lt_or_le n 0 with h | h
  · rw [if_pos h]
    obtain ⟨m, rfl⟩ : ∃ m : Nat, n = -((m + 1 : Nat) : Int) := ⟨n.natAbs - 1, by omega⟩
    rw [tl_neg]
    have : (-((m + 1 : Nat) : Int)).natAbs = m + 1 := by omega
    rw [this]
  · rw [if_neg (by omega)]
    obtain ⟨m, rfl⟩ : ∃ m : Nat, n = (m : Int) := ⟨n.toNat, by omega⟩
    exact tl_num m
/-- a piece of sixty digits -/
theorem tl_piece {p : Nat} (h : p < 10 ^ 60) : tl (Txt.zfill (Str.ofString (toString (p : Int))) 60) = List.replicate (60 - (numL p).length) 48 ++ numL p ∧ (numL p).length ≤ 60 := by
  have l := numL_len (k := 60) (by decide) h
  refine ⟨?_, l⟩
  have lt : (Str.ofString (toString (p : Int))).length = (numL p).length := by rw [len_tl, tl_num]
  unfold Txt.zfill
  by_cases c : (60 : Int) ≤ ((Str.ofString (toString (p : Int))).length : Int)
  · rw [if_pos c]
    rw [lt] at c
    have : 60 - (numL p).length = 0 := by omega
    rw [this, tl_num]
    rfl
  · rw [if_neg c, lt]
    have e0 : (Int.toNat 60 - (numL p).length) = 60 - (numL p).length := rfl
    rw [e0]
    unfold zfilled
    have dg := numL_digits p
    have t := tl_num p
    have ne := numL_ne p
    have nosign : ∀ c, (Str.ofString (toString (p : Int))).cps[0]? = some c → c ≠ 43 ∧ c ≠ 45 := fun c hc => by
      have m : c ∈ tl (Str.ofString (toString (p : Int))) := by
        have := Array.mem_of_getElem? hc
        exact Array.mem_toList_iff.mpr this
      rw [t] at m
      have := dg c m
      omega
    split
    · rename_i h; exact absurd rfl (nosign _ h).1
    · rename_i h; exact absurd rfl (nosign _ h).2
    · rw [tl, padded_list]
      rw [show (Str.ofString (toString (p : Int))).cps.toList = numL p from t]
      simp
/-- pieces of sixty digits, the last ahead -/
def catP (ps : List Str) : List Nat := (ps.reverse.map tl).flatten
structure PcsOk (ps : List Str) : Prop where
  len : ∀ y ∈ ps, (tl y).length = 60
  dig : ∀ y ∈ ps, AllDigits (tl y)
theorem catP_len {ps : List Str} (h : PcsOk ps) : (catP ps).length = 60 * ps.length := by
  unfold catP
  induction ps with
  | nil => rfl
  | cons y ps ih =>
    have e := ih ⟨fun z hz => h.len z (List.mem_cons_of_mem _ hz), fun z hz => h.dig z (List.mem_cons_of_mem _ hz)⟩
    rw [List.reverse_cons, List.map_append, List.flatten_append, List.length_append, e, List.length_cons]
    show 60 * ps.length + ((tl y) ++ []).length = _
    rw [List.append_nil, h.len y List.mem_cons_self]
    omega
theorem catP_snoc (ps : List Str) (y : Str) : catP (ps ++ [y]) = tl y ++ catP ps := by
  unfold catP
  rw [List.reverse_append]
  rfl
theorem catP_dig {ps : List Str} (h : PcsOk ps) : AllDigits (catP ps) := fun c hc => by
  unfold catP at hc
  obtain ⟨l, hl, hc⟩ := List.mem_flatten.mp hc
  obtain ⟨y, hy, rfl⟩ := List.mem_map.mp hl
  exact h.dig y (List.mem_reverse.mp hy) c hc
theorem numL_head {n : Nat} (h : 0 < n) : ∃ c r, numL n = c :: r ∧ 49 ≤ c := by
  induction n using Nat.strongRecOn with
  | _ n ih =>
    by_cases l : n < 10
    · exact ⟨48 + n, [], numL_lt l, by omega⟩
    · obtain ⟨c, r, e, g⟩ := ih (n / 10) (by omega) (by omega)
      exact ⟨c, r ++ [48 + n % 10], by rw [numL_step (by omega), e]; rfl, g⟩
/-- the rest ahead of the pieces: the number's digits -/
theorem whole_cat {m r : Nat} {ps : List Str} (ok : PcsOk ps) (val : m = r * 10 ^ (60 * ps.length) + digitsVal (catP ps)) (pos : ps ≠ [] → 0 < r) : numL r ++ catP ps = numL m := by
  by_cases c : ps = []
  · subst c
    have e : m = r := by rw [val]; show r * 1 + 0 = r; omega
    rw [e]
    exact List.append_nil _
  · obtain ⟨h, t, e, g⟩ := numL_head (pos c)
    have v : digitsVal (numL r ++ catP ps) = m := by rw [val_app, numL_val, catP_len ok, val]
    rw [← v]
    refine (numL_of (fun d hd => ?_) (fun q => ?_) (.inr ⟨h, t ++ catP ps, by rw [e]; rfl, g⟩)).symm
    · rcases List.mem_append.mp hd with hd | hd
      · exact numL_digits r d hd
      · exact catP_dig ok d hd
    · rw [e] at q; cases q
theorem log600 {n : Nat} (h : n < 10 ^ 60) : ((n : Int)).natAbs.log2 < 1920 := by
  show n.log2 < 1920
  rcases Nat.eq_zero_or_pos n with z | z
  · rw [z]; decide
  · have := (Nat.log2_lt (n := n) (k := 200) (by omega)).mpr (Nat.lt_of_lt_of_le h (by decide))
    omega
theorem join_cat : ∀ ps : List Str, tl (Txt.join "" ps) = (ps.map tl).flatten
  | [] => rfl
  | [x] => by
    rw [join_eq]
    show tl x = (tl x) ++ []
    rw [List.append_nil]
  | x :: y :: r => by
    have e := join_cat (y :: r)
    rw [join_eq] at e ⊢
    show tl (x ++ "" ++ Str.join "" (y :: r)) = tl x ++ ((y :: r).map tl).flatten
    rw [tl_append, tl_append, e]
    show tl x ++ [] ++ _ = _
    rw [List.append_nil]
section
variable {P : Program} {w : World} {K : PySem.W.Frag} {mg : Str → Option Value} {base : Heap} {fd : FuncData}
theorem ok_whole_text (T : Top w K mg) (F : Fn K "whole_text" s_whole_text fd) : FnOk P w K mg base CX0 1 (He.ga K "whole_text") fd ["number"] spWhEx := by
  refine F.ok sc_whole_text (fun vs H Q E h => ?_) (fun cdv A outer s H vs Q E hr h => ?_)
  · obtain ⟨n, rfl, _⟩ := h
    rfl
  · obtain ⟨n, rfl, small, k⟩ := h
    have hu := hr.units
    refine ⟨_, PSs.nox (pss_cons (ps_set (i := 1) sc_whole_text.nd rfl (by first | exact Or.inl rfl | exact Or.inr rfl) (pe_callB call_abs rfl T.n_abs (by decide +kernel) (pa_cons (pv 0) pa_nil)))
      (pss_cons (ps_set (i := 2) sc_whole_text.nd rfl (by first | exact Or.inl rfl | exact Or.inr rfl) (pe_lstN pa_nil))
      (pss_cons (ps_while PassesOwn.never (pt_cmpR op_ge (pv 1) (pe_op op_pow pe_int pe_int) (nomark _)) (pss_cons (ps_asg (pe_callB call_divmodW rfl T.n_divmod (by decide +kernel) (pa_cons (pv 1) (pa_cons (pe_op op_pow pe_int pe_int) pa_nil))) (pg_tup rfl (pgs_cons (pg_name (i := 1) sc_whole_text.nd rfl (by first | exact Or.inl rfl | exact Or.inr rfl)) (pgs_cons (pg_name (i := 4) sc_whole_text.nd rfl (by first | exact Or.inl rfl | exact Or.inr rfl)) pgs_nil))))
      (pss_one (ps_expr (pe_bm PySem.F.plainAttrs_list PySem.F.slot_list_append PySem.F.type_list_append mt_append (pv 2) (pa_cons (pe_bm PySem.F.plainAttrs_str PySem.F.slot_str_zfill PySem.F.type_str_zfill mt_zfill (pe_callTy call_str_int rfl T.n_str (by decide +kernel) (pa_cons (pv 4) pa_nil)) (pa_cons (pe_globE rfl T.i_PIECE) pa_nil)) pa_nil))))))
      (pss_cons (ps_expr (pe_bm PySem.F.plainAttrs_list PySem.F.slot_list_append PySem.F.type_list_append mt_append (pv 2) (pa_cons (pe_callTy call_str_int rfl T.n_str (by decide +kernel) (pa_cons (pv 1) pa_nil)) pa_nil)))
      (pss_cons (ps_set (i := 3) sc_whole_text.nd rfl (by first | exact Or.inl rfl | exact Or.inr rfl) (pe_bm PySem.F.plainAttrs_str PySem.F.slot_str_join PySem.F.type_str_join mt_join pe_str (pa_cons (pe_revL (pv 2)) pa_nil)))
      (pss_one (ps_ret (pe_ifExp (pt_cmpR op_lt (pv 0) pe_int (nomark _)) (pe_fs (.cons pe_str (.cons (pe_fmt (pv 3)) .nil))) (pv 3))))))))), ?_⟩
    have hm : (if n < 0 then -n else n) = ((n.natAbs : Nat) : Int) := by split <;> omega
    refine ⟨_, rfl, _, rfl, ?_⟩
    rw [hm]
    generalize n.natAbs = m at hm small ⊢
    refine ⟨Nat.zero_le _, fun L hL _ => ?_⟩
    show tSeq _ _ _ [some (.int n), some (.int (m : Int)), some (.ref L), none, none] _
    with_reducible refine seqU ?_
    have t60 : ((10 : Int) ^ (60 : Int).toNat) = ((10 ^ 60 : Nat) : Int) := by decide
    have pw : CPow 10 60 := ⟨by decide, by decide, by decide⟩
    refine ⟨fun μ σ' H' => ∃ (rest : Nat) (ps : List Str) (c3 c4 : Option V), σ' = [some (.int n), some (.int (rest : Int)), some (.ref L), c3, c4] ∧ Same H H' ∧ H' L = some (.lst (ps.map V.str)) ∧ PcsOk ps ∧ m = rest * 10 ^ (60 * ps.length) + digitsVal (catP ps) ∧ (ps ≠ [] → 0 < rest) ∧ μ = rest, ⟨m, m, [], none, none, rfl, same_new hL, upd_same, ⟨fun _ h => absurd h List.not_mem_nil, fun _ h => absurd h List.not_mem_nil⟩, ?_, fun h => absurd rfl h, rfl⟩, fun μ σ' H' e => ?_⟩
    · show m = m * 1 + 0
      omega
    obtain ⟨rest, ps, c3, c4, rfl, sm, hl, ok, val, pos, rfl⟩ := e
    refine ⟨_, rfl, _, _, rfl, rfl, pw, _, _, rfl, rfl, _, rfl, ?_⟩
    rw [t60]
    refine ite2 (fun c => ?_) (fun c => ?_)
    · have ge : 10 ^ 60 ≤ μ := by
        have := of_decide_eq_true c
        exact_mod_cast this
      refine ⟨fun σ' H' => ∃ m', m' < μ ∧ _, fun _ _ h => h, ?_⟩
      with_reducible refine seqU ?_
      have q1 : ((μ : Int) / (10 : Int) ^ (60 : Int).toNat) = ((μ / 10 ^ 60 : Nat) : Int) := by rw [t60]; exact (Int.natCast_ediv _ _).symm
      have q2 : ((μ : Int) % (10 : Int) ^ (60 : Int).toNat) = ((μ % 10 ^ 60 : Nat) : Int) := by rw [t60]; exact (Int.natCast_emod _ _).symm
      have p60 : (0 : Nat) < 10 ^ 60 := by decide
      refine ⟨_, rfl, _, _, rfl, rfl, pw, (μ : Int), (10 : Int) ^ (60 : Int).toNat, rfl, ⟨by decide, PyProof.noPylong_of_log2 (by decide)⟩, ?_⟩
      rw [q1, q2]
      have dm := Nat.div_add_mod μ (10 ^ 60)
      have dl := Nat.mod_lt μ p60
      have dlt : μ / 10 ^ 60 < μ := Nat.div_lt_self (by omega) (by decide)
      have dpos : 0 < μ / 10 ^ 60 := Nat.div_pos ge p60
      generalize μ / 10 ^ 60 = r at dm dlt dpos ⊢
      generalize μ % 10 ^ 60 = x at dm dl ⊢
      refine fun p np => ⟨p, _, rfl, SqT.of upd_same, rfl, _, _, rfl, _, _, rfl, rfl, ?_⟩
      have nLp : L ≠ p := fun z => by rw [z, np] at hl; cases hl
      have sp := sm.trans (same_new (o := .tup [.int (r : Int), .int (x : Int)]) np)
      obtain ⟨tp, lp⟩ := tl_piece dl
      have lps : ps.length < 100 := by
        rcases Nat.lt_or_ge ps.length 100 with h | h
        · exact h
        · have e1 : (10 : Nat) ^ 600 ≤ 10 ^ (60 * ps.length) := Nat.pow_le_pow_right (by decide) (by omega)
          have e2 : 10 ^ (60 * ps.length) ≤ μ * 10 ^ (60 * ps.length) := Nat.le_mul_of_pos_left _ (by omega)
          omega
      have hLp : (upd H' p (.tup [.int (r : Int), .int (x : Int)])) L = some (.lst (ps.map V.str)) := (upd_ne nLp).trans hl
      refine ⟨_, rfl, .inl ⟨rfl, _, .inl (.inl hLp)⟩, ?_⟩
      have zl : (List.replicate (60 - (numL x).length) 48 ++ numL x).length = 60 := by rw [List.length_append, List.length_replicate]; omega
      have okp : PcsOk (ps ++ [Txt.zfill (Str.ofString (toString (x : Int))) 60]) := by
        refine ⟨fun y hy => ?_, fun y hy => ?_⟩
        · rcases List.mem_append.mp hy with h | h
          · exact ok.len y h
          · rw [List.mem_singleton.mp h, tp]; exact zl
        · rcases List.mem_append.mp hy with h | h
          · exact ok.dig y h
          · rw [List.mem_singleton.mp h, tp]
            intro c hc
            rcases List.mem_append.mp hc with hc | hc
            · rw [List.eq_of_mem_replicate hc]; decide
            · exact numL_digits x c hc
      refine ⟨_, rfl, (x : Int), rfl, log600 dl, rfl, _, 60, rfl, rfl, by decide, ?_⟩
      refine ⟨L, _, _, rfl, rfl, hLp, by rw [List.length_map, sizeLine_eq]; omega, ?_⟩
      refine ⟨r, dlt, r, _, _, _, rfl, fun b o e => (upd_ne (ne_of_none e hL)).trans (sp _ _ e), upd_same.trans (by rw [List.map_append]; rfl), okp, ?_, fun _ => dpos, rfl⟩
      rw [catP_snoc, val_app, tp, val_zeros, numL_val, catP_len ok, List.length_append, Nat.mul_add, Nat.pow_add, val, ← dm]
      show (10 ^ 60 * r + x) * 10 ^ (60 * ps.length) + _ = r * (10 ^ (60 * ps.length) * 10 ^ 60) + (x * 10 ^ (60 * ps.length) + _)
      rw [Nat.add_mul, Nat.mul_comm (10 ^ 60) r, Nat.mul_assoc, Nat.mul_comm (10 ^ 60) (10 ^ (60 * ps.length)), Nat.add_assoc]
    · have lt : μ < 10 ^ 60 := by
        refine Nat.lt_of_not_le fun h => c (decide_eq_true ?_)
        exact_mod_cast h
      have lps : ps.length < 100 := by
        rcases Nat.lt_or_ge ps.length 100 with h | h
        · exact h
        · have ne : ps ≠ [] := fun q => by rw [q] at h; simp at h
          have e1 : (10 : Nat) ^ 600 ≤ 10 ^ (60 * ps.length) := Nat.pow_le_pow_right (by decide) (by omega)
          have e2 : 10 ^ (60 * ps.length) ≤ μ * 10 ^ (60 * ps.length) := Nat.le_mul_of_pos_left _ (pos ne)
          omega
      refine ⟨_, rfl, .inl ⟨rfl, _, .inl (.inl hl)⟩, _, rfl, (μ : Int), rfl, log600 lt, L, _, _, rfl, rfl, hl, by rw [List.length_map, sizeLine_eq]; omega, ?_⟩
      have sL : ∀ {xs}, Same H (upd H' L (.lst xs)) := fun {xs} b o e => (upd_ne (ne_of_none e hL)).trans (sm _ _ e)
      have eL : (upd H' L (.lst (ps.map V.str ++ [V.str (Str.ofString (toString (μ : Int)))]))) L = some (.lst ((ps ++ [Str.ofString (toString (μ : Int))]).map V.str)) := upd_same.trans (by rw [List.map_append]; rfl)
      have s1 : Same H (upd H' L (.lst (ps.map V.str ++ [V.str (Str.ofString (toString (μ : Int)))]))) := sL
      generalize upd H' L (.lst (ps.map V.str ++ [V.str (Str.ofString (toString (μ : Int)))])) = H1 at s1 eL ⊢
      refine ⟨rfl, _, rfl, L, _, rfl, SqL.of eL, fun R hR => ?_⟩
      have s2 := s1.trans (same_new (o := .lst ((ps ++ [Str.ofString (toString (μ : Int))]).map V.str).reverse) hR)
      refine ⟨_, R, (ps ++ [Str.ofString (toString (μ : Int))]).reverse, rfl, rfl, .inl (SqL.of (upd_same.trans (by rw [List.map_reverse]))), ?_, ?_⟩
      · have each : ∀ y ∈ (ps ++ [Str.ofString (toString (μ : Int))]).reverse, y.length ≤ 60 := fun y hy => by
          rcases List.mem_append.mp (List.mem_reverse.mp hy) with h | h
          · rw [len_tl, ok.len y h]; exact Nat.le_refl _
          · rw [List.mem_singleton.mp h, len_tl, tl_num]; exact numL_len (by decide) lt
        have sum : ∀ zs : List Str, (∀ y ∈ zs, y.length ≤ 60) → (zs.map (·.length)).sum ≤ 60 * zs.length := by
          intro zs
          induction zs with
          | nil => intro _; exact Nat.le_refl _
          | cons y r ih =>
            intro h
            have a := h y List.mem_cons_self
            have b := ih fun x hx => h x (List.mem_cons_of_mem _ hx)
            rw [List.map_cons, List.sum_cons, List.length_cons]
            omega
        have z := sum _ each
        rw [List.length_reverse, List.length_append] at z ⊢
        show _ + _ * 0 ≤ _
        have l1 : ([Str.ofString (toString (μ : Int))] : List Str).length = 1 := rfl
        rw [l1] at z ⊢
        omega
      · have cat : tl (Txt.join "" (ps ++ [Str.ofString (toString (μ : Int))]).reverse) = numL m := by
          rw [join_cat]
          have e : ((ps ++ [Str.ofString (toString (μ : Int))]).reverse.map tl).flatten = catP (ps ++ [Str.ofString (toString (μ : Int))]) := rfl
          rw [e, catP_snoc, tl_num, whole_cat ok val pos]
        have lm := numL_len (k := 600) (by decide) small
        have ly : (Txt.join "" (ps ++ [Str.ofString (toString (μ : Int))]).reverse).length ≤ 600 := by rw [len_tl, cat]; exact lm
        generalize Txt.join "" (ps ++ [Str.ofString (toString (μ : Int))]).reverse = y at cat ly ⊢
        have tn := tl_int n
        refine ⟨_, rfl, _, _, rfl, rfl, _, rfl, ?_⟩
        refine ite2 (fun c => ?_) (fun c => ?_)
        · have neg : n < 0 := of_decide_eq_true c
          rw [if_pos neg] at tn hm
          have nm : n.natAbs = m := by omega
          rw [nm] at tn
          have ey : Str.empty ++ "-" ++ y = Str.ofString (toString n) := str_ext (by
            rw [tn, tl_append, tl_append, cat]
            rfl)
          refine ⟨_, rfl, by decide +kernel, _, rfl, .inl ⟨y, rfl, by rw [sizeLine_eq]; omega, _, rfl, ?_, ?_⟩⟩
          · rw [len_tl, tl_append, tl_append, List.length_append, List.length_append, cat, sizeLine_eq]
            show 0 + 1 + _ ≤ _
            omega
          · rw [ey]
            exact k _ s2
        · have neg : ¬ n < 0 := fun h => c (decide_eq_true h)
          rw [if_neg neg] at tn hm
          have nm : n.natAbs = m := by omega
          rw [nm] at tn
          have ey : y = Str.ofString (toString n) := str_ext (by rw [cat, tn])
          refine ⟨_, rfl, ?_⟩
          rw [ey]
          exact k _ s2
end
end L2.K19
set_option Elab.async false
set_option linter.all false
set_option maxRecDepth 100000
set_option maxHeartbeats 4000000
/-! Texts that are numbers, and what they count. -/
namespace L2.K19
open PySem PySem.Spec PyProof.Rows L2.RV NumText TL
def digitsOf (x : Str) : Str := if Txt.startswith x "-" = true then cutS x (some 1) none else x
def wholeText (x : Str) : Bool := if (!Txt.isascii (digitsOf x) || !Txt.isdigit (digitsOf x)) = true then false else decide (x = "0") || !Txt.startswith (digitsOf x) "0"
def spWText : Sp := fun vs H Q _ => ∃ x : Str, vs = [.str x] ∧ x.length ≤ sizeLine ∧ Q (.bl (wholeText x)) H
/-- what a text of digits, with a sign ahead or not, counts -/
def wholeNum (x : Str) : Int := if Txt.startswith x "-" = true then -((digitsVal (tl (digitsOf x)) : Nat) : Int) else ((digitsVal (tl (digitsOf x)) : Nat) : Int)
/-- whole_of(word) -/
def spWholeOf : Sp := fun vs H Q _ => ∃ x : Str, vs = [.str x] ∧ x.length ≤ 601 ∧ AllDigits (tl (digitsOf x)) ∧ (digitsOf x).length ≤ 600 ∧ Q (.int (wholeNum x)) H
theorem tl_cut (d : Str) (a b : Nat) : tl (cutS d (some (a : Int)) (some (b : Int))) = ((tl d).drop a).take (b - a) := by
  unfold cutS
  rw [HT.sIx_nat, HT.sIx_nat, tl_mk]
  show ((tl d).drop (min a d.length)).take (min b d.length - min a d.length) = _
  rw [len_tl]
  rcases Nat.lt_or_ge a (tl d).length with h | h
  · rw [Nat.min_eq_left (Nat.le_of_lt h)]
    rcases Nat.lt_or_ge b (tl d).length with g | g
    · rw [Nat.min_eq_left (Nat.le_of_lt g)]
    · rw [Nat.min_eq_right g, List.take_of_length_le (by rw [List.length_drop]; omega), List.take_of_length_le (by rw [List.length_drop]; omega)]
  · rw [Nat.min_eq_right h, List.drop_of_length_le (Nat.le_refl _), List.drop_of_length_le h, List.take_nil, List.take_nil]
theorem tl_cut0 (d : Str) (b : Nat) : tl (cutS d none (some (b : Int))) = (tl d).take b := by
  have e : cutS d none (some (b : Int)) = cutS d (some ((0 : Nat) : Int)) (some (b : Int)) := by
    unfold cutS
    rw [HT.sIx_none, HT.sIx_nat, HT.sIx_nat, Nat.zero_min]
  rw [e, tl_cut, List.drop_zero, Nat.sub_zero]
theorem int_cut {x : Str} (h : AllDigits (tl x)) (ne : tl x ≠ []) (l : x.length ≤ 640) : PySem.intText? x = some ((digitsVal (tl x) : Nat) : Int) := intText_digits h ne (by omega)
theorem nxwU {f : L2.St → Hp → Prop} {rt : VK} {bk ct : L2.St → Hp → Prop} {σ : L2.St} {H : Hp} (h : f σ H) : ({ nx := f, rt := rt, bk := bk, ct := ct } : Ends).nx σ H := h
theorem val_lt {cs : List Nat} (h : AllDigits cs) : digitsVal cs < 10 ^ cs.length := by
  have key : ∀ n (cs : List Nat), cs.length = n → AllDigits cs → digitsVal cs < 10 ^ cs.length := by
    intro n
    induction n with
    | zero =>
      intro cs l _
      rw [List.length_eq_zero_iff.mp l]
      decide
    | succ n ih =>
      intro cs l h
      have ne : cs ≠ [] := fun q => by rw [q] at l; cases l
      obtain ⟨c, e, rfl⟩ : ∃ c e, cs = c ++ [e] := ⟨cs.dropLast, cs.getLast ne, (List.dropLast_concat_getLast ne).symm⟩
      have hc : c.length = n := by rw [List.length_append] at l; exact Nat.succ.inj l
      have a := ih c hc fun x hx => h x (List.mem_append_left _ hx)
      have b := h e (List.mem_append_right _ (List.mem_singleton.mpr rfl))
      rw [digitsVal_snoc, List.length_append, Nat.pow_add]
      show _ < 10 ^ c.length * 10
      omega
  exact key _ cs rfl h
theorem val_log {cs : List Nat} (h : AllDigits cs) (l : cs.length ≤ 600) : digitsVal cs < 2 ^ 2000 :=
  Nat.lt_of_lt_of_le (val_lt h) (Nat.le_trans (Nat.pow_le_pow_right (by decide) l) (by decide +kernel))
theorem mulW {n : Nat} (h : n < 2 ^ 2000) : CMulW ((n : Nat) : Int) ((10 : Int) ^ (60 : Int).toNat) := by
  have a : ((n : Nat) : Int).natAbs.log2 < 2001 := by
    show n.log2 < 2001
    rcases Nat.eq_zero_or_pos n with z | z
    · rw [z]; decide
    · have := (Nat.log2_lt (n := n) (k := 2000) (by omega)).mpr h
      omega
  have b : ((10 : Int) ^ (60 : Int).toNat).natAbs.log2 < 300 := by decide +kernel
  unfold CMulW
  omega
theorem pieces60 (n : Nat) (h : n ≤ 600) : RgC ((n % 60 : Nat) : Int) ((n : Nat) : Int) 60 (n / 60) := by
  have all : ∀ n : Fin 601, RgC ((n.val % 60 : Nat) : Int) ((n.val : Nat) : Int) 60 (n.val / 60) := by
    unfold RgC
    decide +kernel
  exact all ⟨n, by omega⟩
section
variable {P : Program} {w : World} {K : PySem.W.Frag} {mg : Str → Option Value} {base : Heap} {fd : FuncData}
def tStr0 (K : PySem.W.Frag) (f : Str → Bool) (to : TE) : TE := tBM0 K "str" (fun x xs H Q => ∃ a, x = .str a ∧ xs = [] ∧ True ∧ Q (.bl (f a)) H) to
def tWTail (K : PySem.W.Frag) : TS := tSeq (tIfS (tOr (tNot (tB (tStr0 K Txt.isascii (tVar 1)))) (tNot (tB (tStr0 K Txt.isdigit (tVar 1))))) (tRet (tC (.bl false))) tNext)
  (tRet (tOrV (tOp (rSame K) (tVar 0) (tC (.str "0"))) (tNotV (tBM K "str" (fun x xs H Q => ∃ a b, x = .str a ∧ xs = [.str b] ∧ Q (.bl (Txt.startswith a b)) H) (tVar 1) (tCons (tC (.str "0")) tNil)))))
theorem wtail_ok {x d : Str} {D : Ends} {H : Hp} (hd : digitsOf x = d) (k : D.rt (.bl (wholeText x)) H) : tWTail K D [some (.str x), some (.str d)] H := by
  unfold wholeText at k
  rw [hd] at k
  refine ⟨_, rfl, rfl, _, rfl, rfl, trivial, _, rfl, ?_⟩
  cases a : Txt.isascii d with
  | false =>
    rw [a] at k
    exact k
  | true =>
    rw [a] at k
    refine ⟨_, rfl, rfl, _, rfl, rfl, trivial, _, rfl, ?_⟩
    cases b : Txt.isdigit d with
    | false =>
      rw [b] at k
      exact k
    | true =>
      rw [b] at k
      refine ⟨_, rfl, .inl ⟨rfl, _, rfl, ?_⟩⟩
      by_cases z : x = "0"
      · have e : decide (V.str x = V.str "0") = true := decide_eq_true (by rw [z])
        refine (if_pos e).mpr ?_
        rw [decide_eq_true z] at k
        exact k
      · have e : ¬ decide (V.str x = V.str "0") = true := fun q => z (V.str.inj (of_decide_eq_true q))
        refine (if_neg e).mpr ?_
        rw [decide_eq_false z] at k
        exact ⟨_, rfl, rfl, _, _, rfl, rfl, _, rfl, k⟩
theorem ok_is_whole_text (T : Top w K mg) (F : Fn K "is_whole_text" s_is_whole_text fd) : FnOk P w K mg base CX0 1 (He.ga K "is_whole_text") fd ["word"] spWText := by
  refine F.ok sc_is_whole_text (fun vs H Q E h => ?_) (fun cdv A outer s H vs Q E hr h => ?_)
  · obtain ⟨x, rfl, _⟩ := h
    rfl
  · obtain ⟨x, rfl, hx, k⟩ := h
    have hu := hr.units
    refine ⟨_, PSs.nox (pss_cons (ps_set (i := 1) sc_is_whole_text.nd rfl (by first | exact Or.inl rfl | exact Or.inr rfl) (pe_ifExp (pt_val (pe_bm PySem.F.plainAttrs_str PySem.F.slot_str_startswith PySem.F.type_str_startswith mt_startswith (pv 0) (pa_cons pe_str pa_nil))) (pe_slice sl_str (pv 0) (po_some pe_int) po_none) (pv 0)))
      (pss_cons (ps_if (PW.pt (pw_or (pt_not (pt_val (pe_bm0 PySem.F.plainAttrs_str PySem.F.slot_str_isascii PySem.F.type_str_isascii mt_isascii (pv 1)))) (pw_or1 (pt_not (pt_val (pe_bm0 PySem.F.plainAttrs_str PySem.F.slot_str_isdigit PySem.F.type_str_isdigit mt_isdigit (pv 1))))))) (pss_one (ps_ret pe_bl)) pss_nil)
      (pss_one (ps_ret (pe_or (pe_cmpR (op_same hu) (pv 0) pe_str (nomark _)) (pe_one (pe_not (pe_bm PySem.F.plainAttrs_str PySem.F.slot_str_startswith PySem.F.type_str_startswith mt_startswith (pv 1) (pa_cons pe_str pa_nil))))))))), ?_⟩
    refine ⟨_, rfl, rfl, _, _, rfl, rfl, _, rfl, ?_⟩
    refine ite2 (fun c => ?_) (fun c => ?_)
    · refine ⟨_, rfl, _, rfl, x, rfl, hx, ?_⟩
      exact wtail_ok (K := K) (by unfold digitsOf; rw [if_pos c]) k
    · refine ⟨_, rfl, ?_⟩
      exact wtail_ok (K := K) (by unfold digitsOf; rw [if_neg c]) k
def tStarts (K : PySem.W.Frag) (i : Nat) (z : Str) : TE := tBM K "str" (fun x xs H Q => ∃ a b, x = .str a ∧ xs = [.str b] ∧ Q (.bl (Txt.startswith a b)) H) (tVar i) (tCons (tC (.str z)) tNil)
def tDigits (K : PySem.W.Frag) : TE := tIf (tB (tStarts K 0 "-")) (tSl rSlS (tVar 0) (tPart (tC (.int 1))) tNoPart) (tVar 0)
theorem digits_ok {σ : L2.St} {H : Hp} {Q : VK} {x : Str} (v : σ[0]? = some (some (.str x))) (lx : x.length ≤ sizeLine) (k : Q (.str (digitsOf x)) H) : tDigits K σ H Q := by
  refine ⟨_, v, rfl, _, _, rfl, rfl, _, rfl, ?_⟩
  refine ite2 (fun c => ?_) (fun c => ?_)
  · refine ⟨_, v, _, rfl, x, rfl, lx, ?_⟩
    unfold digitsOf at k
    rw [if_pos c] at k
    exact k
  · refine ⟨_, v, ?_⟩
    unfold digitsOf at k
    rw [if_neg c] at k
    exact k
theorem set_of {te : TE} {i : Nat} {rest : TS} {D : Ends} {σ : L2.St} {H : Hp} (h : te σ H fun v H1 => rest D (σ.set i (some v)) H1) : tSeq (tAsg te (gName i)) rest D σ H := h

theorem ok_whole_of (T : Top w K mg) (F : Fn K "whole_of" s_whole_of fd) : FnOk P w K mg base CX0 1 (He.ga K "whole_of") fd ["word"] spWholeOf := by
  refine F.ok sc_whole_of (fun vs H Q E h => ?_) (fun cdv A outer s H vs Q E hr h => ?_)
  · obtain ⟨x, rfl, _⟩ := h
    rfl
  · obtain ⟨x, rfl, lx, ld, l6, k⟩ := h
    have hu := hr.units
    refine ⟨_, PSs.nox (pss_cons (ps_set (i := 1) sc_whole_of.nd rfl (by first | exact Or.inl rfl | exact Or.inr rfl) (pe_ifExp (pt_val (pe_bm PySem.F.plainAttrs_str PySem.F.slot_str_startswith PySem.F.type_str_startswith mt_startswith (pv 0) (pa_cons pe_str pa_nil))) (pe_slice sl_str (pv 0) (po_some pe_int) po_none) (pv 0)))
      (pss_cons (ps_set (i := 2) sc_whole_of.nd rfl (by first | exact Or.inl rfl | exact Or.inr rfl) (pe_op op_mod (pe_callB (call_lenK (K := K) rfl) rfl T.n_len (by decide +kernel) (pa_cons (pv 1) pa_nil)) (pe_globE rfl T.i_PIECE)))
      (pss_cons (ps_set (i := 3) sc_whole_of.nd rfl (by first | exact Or.inl rfl | exact Or.inr rfl) (pe_ifExp (pt_cmpR op_gt (pv 2) pe_int (nomark _)) (pe_callTy call_int_str rfl T.n_int (by decide +kernel) (pa_cons (pe_slice sl_str (pv 1) po_none (po_some (pv 2))) pa_nil)) pe_int))
      (pss_cons (ps_for PassesOwn.never rfl (pi_range3 rfl T.n_range (pa_cons (pv 2) (pa_cons (pe_callB (call_lenK (K := K) rfl) rfl T.n_len (by decide +kernel) (pa_cons (pv 1) pa_nil)) (pa_cons (pe_globE rfl T.i_PIECE) pa_nil)))) (pg_name (i := 4) sc_whole_of.nd rfl (by first | exact Or.inl rfl | exact Or.inr rfl)) (pss_one (ps_set (i := 3) sc_whole_of.nd rfl (by first | exact Or.inl rfl | exact Or.inr rfl) (pe_op op_plus (pe_op op_mulW (pv 3) (pe_op op_pow pe_int pe_int)) (pe_callTy call_int_str rfl T.n_int (by decide +kernel) (pa_cons (pe_slice sl_str (pv 1) (po_some (pv 4)) (po_some (pe_op op_plus (pv 4) (pe_globE rfl T.i_PIECE)))) pa_nil))))))
      (pss_one (ps_ret (pe_ifExp (pt_val (pe_bm PySem.F.plainAttrs_str PySem.F.slot_str_startswith PySem.F.type_str_startswith mt_startswith (pv 0) (pa_cons pe_str pa_nil))) (pe_un un_neg (pv 3)) (pv 3)))))))), ?_⟩
    refine set_of (digits_ok rfl (by rw [sizeLine_eq]; omega) ?_)
    unfold wholeNum at k
    generalize digitsOf x = d at ld l6 k ⊢
    show tSeq _ _ _ [some (.str x), some (.str d), none, none, none] H
    with_reducible refine setsU ?_
    refine ⟨_, rfl, .str d, _, rfl, ⟨by rw [sizeLine_eq]; omega, rfl⟩, _, _, rfl, rfl, (by decide : (0 : Int) < 60), ?_⟩
    have big : d.length ≤ sizeLine := by rw [sizeLine_eq]; omega
    show tSeq _ _ _ [some (.str x), some (.str d), some (.int ((d.length % 60 : Nat) : Int)), none, none] H
    with_reducible refine setsU ?_
    refine ⟨_, rfl, _, _, rfl, rfl, _, rfl, ?_⟩
    suffices z : ∀ v : Int, v = ((digitsVal ((tl d).take (d.length % 60)) : Nat) : Int) → tSeq _ _ _ [some (.str x), some (.str d), some (.int ((d.length % 60 : Nat) : Int)), some (.int v), none] H by
      rcases Nat.eq_zero_or_pos (d.length % 60) with c | c
      · refine ite2 (fun c' => absurd (of_decide_eq_true c') (by rw [c]; decide)) (fun _ => ?_)
        exact z 0 (by rw [c]; rfl)
      · refine ite2 (fun _ => ?_) (fun c' => absurd (decide_eq_true (by omega)) c')
        have lk : (tl d).length = d.length := by rw [len_tl]
        have le := Nat.mod_le d.length 60
        refine ⟨_, rfl, _, rfl, _, rfl, d, rfl, big, cutS d none (some ((d.length % 60 : Nat) : Int)), _, rfl, int_cut ?_ ?_ ?_, ?_, z _ ?_⟩
        · rw [tl_cut0]
          exact fun c hc => ld c (List.mem_of_mem_take hc)
        · rw [tl_cut0]
          intro q
          have := congrArg List.length q
          rw [List.length_take, lk, List.length_nil] at this
          omega
        · rw [len_tl, tl_cut0, List.length_take]
          omega
        · rw [len_tl, tl_cut0, List.length_take]
          omega
        · rw [tl_cut0]
    intro v hv
    subst hv
    with_reducible refine seqU ?_
    refine ⟨_, rfl, _, rfl, _, _, rfl, ⟨big, rfl⟩, _, _, _, d.length / 60, rfl, pieces60 d.length l6, ?_⟩
    refine for_rangeC (fun i σ' H' => ∃ c4, σ' = [some (.str x), some (.str d), some (.int ((d.length % 60 : Nat) : Int)), some (.int ((digitsVal ((tl d).take (d.length % 60 + 60 * i)) : Nat) : Int)), c4] ∧ H' = H) ⟨none, rfl, rfl⟩ (fun i σ' H' hi y => ?_) (fun σ' H' y => ?_)
    · obtain ⟨c4, rfl, rfl⟩ := y
      have ea : (((d.length % 60 : Nat) : Int) + (i : Nat) * 60) = ((d.length % 60 + 60 * i : Nat) : Int) := by omega
      have eb : (((d.length % 60 : Nat) : Int) + (i : Nat) * 60 + 60) = ((d.length % 60 + 60 * i + 60 : Nat) : Int) := by omega
      have le : d.length % 60 + 60 * i + 60 ≤ d.length := by omega
      show tAsg _ _ _ [some (.str x), some (.str d), some (.int ((d.length % 60 : Nat) : Int)), some (.int ((digitsVal ((tl d).take (d.length % 60 + 60 * i)) : Nat) : Int)), some (.int (((d.length % 60 : Nat) : Int) + (i : Nat) * 60))] _
      rw [ea]
      rw [ea] at eb
      have es : d.length % 60 + 60 * (i + 1) = d.length % 60 + 60 * i + 60 := by omega
      rw [es]
      generalize d.length % 60 + 60 * i = p at le eb ⊢
      refine ⟨_, rfl, _, _, rfl, rfl, ⟨by decide, by decide, by decide⟩, ?_⟩
      have small : digitsVal ((tl d).take p) < 2 ^ 2000 := val_log (fun c hc => ld c (List.mem_of_mem_take hc)) (by rw [List.length_take]; omega)
      refine ⟨_, _, rfl, rfl, mulW small, ?_⟩
      refine ⟨_, rfl, _, rfl, _, rfl, _, rfl, .inl ⟨_, _, rfl, rfl, ?_⟩⟩
      have ct : tl (cutS d (some ((p : Nat) : Int)) (some (((p : Nat) : Int) + 60))) = ((tl d).drop p).take 60 := by
        rw [eb, tl_cut, Nat.add_sub_cancel_left]
      have lk : (tl d).length = d.length := by rw [len_tl]
      have lc : (((tl d).drop p).take 60).length = 60 := by rw [List.length_take, List.length_drop]; omega
      refine ⟨_, rfl, d, rfl, big, cutS d (some ((p : Nat) : Int)) (some (((p : Nat) : Int) + 60)), ((digitsVal (((tl d).drop p).take 60) : Nat) : Int), rfl, ?_, ?_, .inl ⟨_, _, rfl, rfl, some (.int ((p : Nat) : Int)), ?_, rfl⟩⟩
      · rw [← ct]
        refine int_cut ?_ ?_ ?_
        · rw [ct]
          exact fun c hc => ld c (List.mem_of_mem_drop (List.mem_of_mem_take hc))
        · rw [ct]
          exact fun q => by rw [q] at lc; cases lc
        · rw [len_tl, ct, lc]
          decide
      · rw [len_tl, ct, lc]
        decide
      · have val : digitsVal ((tl d).take (p + 60)) = digitsVal ((tl d).take p) * 10 ^ 60 + digitsVal (((tl d).drop p).take 60) := by
          rw [List.take_add, val_app, lc]
        rw [val, Int.natCast_add, Int.natCast_mul]
        rfl
    · obtain ⟨c4, rfl, rfl⟩ := y
      have all : d.length % 60 + 60 * (d.length / 60) = d.length := by omega
      have tk : (tl d).take d.length = tl d := List.take_of_length_le (by rw [len_tl]; exact Nat.le_refl _)
      refine nxwU ?_
      show tRet _ _ [some (.str x), some (.str d), some (.int ((d.length % 60 : Nat) : Int)), some (.int ((digitsVal ((tl d).take (d.length % 60 + 60 * (d.length / 60))) : Nat) : Int)), c4] _
      rw [all, tk]
      refine ⟨_, rfl, rfl, _, _, rfl, rfl, _, rfl, ?_⟩
      refine ite2 (fun c => ?_) (fun c => ?_)
      · rw [if_pos c] at k
        exact ⟨_, rfl, _, rfl, k⟩
      · rw [if_neg c] at k
        exact ⟨_, rfl, k⟩
end
end L2.K19
set_option Elab.async false
set_option linter.all false
set_option maxRecDepth 100000
set_option maxHeartbeats 4000000
/-! A word is a number's text exactly if it is what the number is written as. -/
namespace L2.K19
open PySem PySem.Spec PyProof.Rows L2.RV NumText TL
abbrev intS (n : Int) : Str := Str.ofString (toString n)
theorem starts1 {x z : Str} {c k : Nat} {cs : List Nat} (h : tl x = c :: cs) (hz : tl z = [k]) : Txt.startswith x z = (c == k) := by
  have lx : x.length = cs.length + 1 := by
    rw [len_tl, h]
    rfl
  have lz : z.length = 1 := by
    rw [len_tl, hz]
    rfl
  have h' : x.cps.toList = c :: cs := h
  have hz' : z.cps.toList = [k] := hz
  unfold Txt.startswith
  rw [StrLaws.subAt_eq, h', hz', lx, lz]
  show (decide (1 ≤ cs.length + 1) && ([c] == [k])) = (c == k)
  rw [decide_eq_true (by omega), Bool.true_and]
  cases z : (c == k) with
  | true =>
    have e : c = k := LawfulBEq.eq_of_beq z
    rw [e]
    exact beq_self_eq_true _
  | false =>
    refine Bool.eq_false_iff.mpr fun w => ?_
    have := List.cons.inj (LawfulBEq.eq_of_beq w)
    rw [this.1, beq_self_eq_true] at z
    cases z
theorem nil_empty {x : Str} (h : tl x = []) : x = "" := str_ext (h.trans (by decide +kernel))
theorem tl_cut1 (x : Str) : tl (cutS x (some 1) none) = (tl x).drop 1 := by
  unfold cutS
  have e : (1 : Int) = ((1 : Nat) : Int) := rfl
  rw [e, HT.sIx_nat, HT.sIx_none, tl_mk]
  show ((tl x).drop (min 1 x.length)).take (x.length - min 1 x.length) = _
  rw [len_tl]
  cases h : tl x with
  | nil => rfl
  | cons c cs =>
    have : min 1 (c :: cs).length = 1 := Nat.min_eq_left (by simp)
    rw [this]
    exact List.take_of_length_le (by rw [List.length_drop]; omega)
theorem digits_nil {x : Str} (h : tl x = []) : digitsOf x = x ∧ Txt.startswith x "-" = false := by
  rw [nil_empty h]
  decide +kernel
theorem digits_neg {x : Str} {cs : List Nat} (h : tl x = 45 :: cs) : tl (digitsOf x) = cs ∧ Txt.startswith x "-" = true := by
  have s : Txt.startswith x "-" = true := (starts1 h (z := "-") (k := 45) (by decide +kernel)).trans rfl
  refine ⟨?_, s⟩
  unfold digitsOf
  rw [if_pos s, tl_cut1, h]
  rfl
theorem digits_pos {x : Str} {c : Nat} {cs : List Nat} (h : tl x = c :: cs) (n : c ≠ 45) : digitsOf x = x ∧ Txt.startswith x "-" = false := by
  have s : Txt.startswith x "-" = false := (starts1 h (z := "-") (k := 45) (by decide +kernel)).trans (beq_eq_false_iff_ne.mpr n)
  refine ⟨?_, s⟩
  unfold digitsOf
  rw [if_neg (by rw [s]; decide)]
theorem digit_code : ∀ c : Fin 128, Unicode.isDigit c.val = true → 48 ≤ c.val ∧ c.val ≤ 57 := by decide +kernel
theorem code_digit : ∀ c : Fin 128, 48 ≤ c.val → c.val ≤ 57 → Unicode.isDigit c.val = true := by decide +kernel
/-- only digits, one at least -/
theorem dig_iff (d : Str) : (Txt.isascii d && Txt.isdigit d) = true ↔ AllDigits (tl d) ∧ tl d ≠ [] := by
  constructor
  · intro h
    obtain ⟨a, b⟩ := Bool.and_eq_true_iff.mp h
    obtain ⟨b1, b2⟩ := Bool.and_eq_true_iff.mp (show (decide (d.length > 0) && d.cps.all Unicode.isDigit) = true from b)
    have pos : 0 < d.length := of_decide_eq_true b1
    have a' : d.cps.all (fun c => decide (c < 128)) = true := a
    refine ⟨fun c hc => ?_, fun q => ?_⟩
    · have hc' : c ∈ d.cps := Array.mem_def.mpr hc
      have lt : c < 128 := of_decide_eq_true (Array.all_eq_true'.mp a' c hc')
      exact digit_code ⟨c, lt⟩ (Array.all_eq_true'.mp b2 c hc')
    · rw [len_tl, q] at pos
      exact absurd pos (by decide)
  · intro ⟨h, ne⟩
    refine Bool.and_eq_true_iff.mpr ⟨?_, ?_⟩
    · show d.cps.all (fun c => decide (c < 128)) = true
      refine Array.all_eq_true'.mpr fun c hc => decide_eq_true ?_
      have := h c (Array.mem_def.mp hc)
      omega
    · show (decide (d.length > 0) && d.cps.all Unicode.isDigit) = true
      refine Bool.and_eq_true_iff.mpr ⟨decide_eq_true ?_, Array.all_eq_true'.mpr fun c hc => ?_⟩
      · rw [len_tl]
        exact List.length_pos_iff.mpr ne
      · have := h c (Array.mem_def.mp hc)
        exact code_digit ⟨c, by omega⟩ this.1 this.2
/-- the digits of a number's text -/
def digW (cs : List Nat) : Prop := AllDigits cs ∧ ∃ c r, cs = c :: r ∧ (cs = [48] ∨ 49 ≤ c)
theorem digW_num {cs : List Nat} (h : digW cs) : numL (digitsVal cs) = cs := by
  obtain ⟨a, c, r, e, o⟩ := h
  refine numL_of a (by rw [e]; intro q; cases q) ?_
  rcases o with o | o
  · exact .inl (by rw [o]; rfl)
  · exact .inr ⟨c, r, e, o⟩
theorem whole_iff (x : Str) : wholeText x = true ↔ digW (tl (digitsOf x)) ∧ (tl (digitsOf x) = [48] → x = "0") := by
  unfold wholeText
  cases b : (Txt.isascii (digitsOf x) && Txt.isdigit (digitsOf x)) with
  | false =>
    rw [if_pos (by rw [← Bool.not_and, b]; rfl)]
    refine ⟨fun h => (by cases h), fun ⟨⟨a, c, r, e, _⟩, _⟩ => ?_⟩
    have := (dig_iff (digitsOf x)).mpr ⟨a, by rw [e]; intro q; cases q⟩
    rw [this] at b
    cases b
  | true =>
    rw [if_neg (by rw [← Bool.not_and, b]; decide)]
    obtain ⟨a, ne⟩ := (dig_iff (digitsOf x)).mp b
    cases hd : tl (digitsOf x) with
    | nil => exact absurd hd ne
    | cons c r =>
      rw [starts1 hd (z := "0") (k := 48) (by decide +kernel)]
      have rng := a c (by rw [hd]; exact List.mem_cons_self)
      rw [hd] at a
      constructor
      · intro h
        rcases Bool.or_eq_true_iff.mp h with h | h
        · have e := of_decide_eq_true h
          have z : tl (digitsOf x) = [48] := by rw [e]; decide +kernel
          rw [hd] at z
          exact ⟨⟨a, c, r, rfl, .inl z⟩, fun _ => e⟩
        · have n48 : c ≠ 48 := fun q => by rw [q] at h; exact absurd h (by decide)
          exact ⟨⟨a, c, r, rfl, .inr (by omega)⟩, fun q => absurd (List.cons.inj q).1 n48⟩
      · rintro ⟨⟨_, c', r', e, o⟩, z⟩
        obtain ⟨rfl, rfl⟩ := List.cons.inj e
        rcases o with o | o
        · rw [decide_eq_true (z o)]
          rfl
        · rw [show (c == 48) = false from beq_eq_false_iff_ne.mpr (by omega)]
          exact Bool.or_true _
theorem pos_of {cs : List Nat} (h : digW cs) (n : cs ≠ [48]) : 0 < digitsVal cs := by
  rcases Nat.eq_zero_or_pos (digitsVal cs) with z | z
  · have := digW_num h
    rw [z] at this
    have e : numL 0 = [48] := by decide +kernel
    exact absurd (this.symm.trans e) n
  · exact z
/-- a number's text is what the number is written as -/
theorem whole_back {x : Str} (h : wholeText x = true) : x = intS (wholeNum x) := by
  obtain ⟨d, z⟩ := (whole_iff x).mp h
  refine str_ext ?_
  rw [tl_int]
  cases hx : tl x with
  | nil =>
    rw [(digits_nil hx).1, hx] at d
    obtain ⟨_, c, r, e, _⟩ := d
    cases e
  | cons c cs =>
    rcases Decidable.em (c = 45) with q | q
    · subst q
      obtain ⟨e, s⟩ := digits_neg hx
      rw [e] at d z
      have n48 : cs ≠ [48] := fun q => by
        have := z q
        rw [this] at hx
        have t : tl ("0" : Str) = [48] := by decide +kernel
        rw [t] at hx
        cases hx
      have p := pos_of d n48
      have wn : wholeNum x = -((digitsVal cs : Nat) : Int) := by
        unfold wholeNum
        rw [if_pos s, e]
      rw [wn, if_pos (by omega)]
      have : (-((digitsVal cs : Nat) : Int)).natAbs = digitsVal cs := by omega
      rw [this, digW_num d]
    · obtain ⟨e, s⟩ := digits_pos hx q
      rw [e, hx] at d
      have ns : ¬ Txt.startswith x "-" = true := by rw [s]; decide
      have wn : wholeNum x = ((digitsVal (c :: cs) : Nat) : Int) := by
        unfold wholeNum
        rw [if_neg ns, e, hx]
      rw [wn, if_neg (by omega)]
      exact (digW_num d).symm
theorem digW_numL (n : Nat) : digW (numL n) := by
  rcases Nat.eq_zero_or_pos n with z | z
  · subst z
    exact ⟨numL_digits 0, 48, [], by decide +kernel, .inl (by decide +kernel)⟩
  · obtain ⟨c, r, e, g⟩ := numL_head z
    exact ⟨numL_digits n, c, r, e, .inr g⟩
theorem numL_48 {n : Nat} (h : numL n = [48]) : n = 0 := by
  have := numL_val n
  rw [h] at this
  exact this.symm
theorem numL_ne45 (n : Nat) : ∃ c r, numL n = c :: r ∧ c ≠ 45 := by
  obtain ⟨a, c, r, e, _⟩ := digW_numL n
  exact ⟨c, r, e, by have := a c (by rw [e]; exact List.mem_cons_self); omega⟩
/-- what a number is written as is a number's text, and counts it -/
theorem int_whole (n : Int) : wholeText (intS n) = true ∧ wholeNum (intS n) = n := by
  have t := tl_int n
  rcases Int.lt_or_le n 0 with h | h
  · rw [if_pos h] at t
    obtain ⟨e, s⟩ := digits_neg t
    refine ⟨(whole_iff _).mpr ?_, ?_⟩
    · rw [e]
      exact ⟨digW_numL _, fun q => by have := numL_48 q; omega⟩
    · unfold wholeNum
      rw [if_pos s, e, numL_val]
      omega
  · rw [if_neg (by omega)] at t
    obtain ⟨c, r, ec, nc⟩ := numL_ne45 n.natAbs
    obtain ⟨e, s⟩ := digits_pos (t.trans ec) nc
    refine ⟨(whole_iff _).mpr ?_, ?_⟩
    · rw [e, t]
      refine ⟨digW_numL _, fun q => ?_⟩
      have z := numL_48 q
      refine str_ext ?_
      rw [t, z]
      decide +kernel
    · unfold wholeNum
      rw [if_neg (by rw [s]; decide), e, t, numL_val]
      omega
theorem intS_inj {m n : Int} (h : intS m = intS n) : m = n := by
  rw [← (int_whole m).2, ← (int_whole n).2, h]
theorem digits_le (x : Str) : (digitsOf x).length ≤ x.length := by
  rw [len_tl, len_tl]
  cases hx : tl x with
  | nil => rw [(digits_nil hx).1, hx]; exact Nat.le_refl _
  | cons c cs =>
    rcases Decidable.em (c = 45) with q | q
    · subst q
      rw [(digits_neg hx).1]
      exact Nat.le_succ _
    · rw [(digits_pos hx q).1, hx]
      exact Nat.le_refl _
theorem whole_digits {x : Str} (h : wholeText x = true) (l : x.length ≤ 600) : AllDigits (tl (digitsOf x)) ∧ (digitsOf x).length ≤ 600 :=
  ⟨((whole_iff x).mp h).1.1, Nat.le_trans (digits_le x) l⟩
end L2.K19
set_option Elab.async false
set_option linter.all false
set_option maxRecDepth 100000
set_option maxHeartbeats 4000000
/-! The words of a text, taken one by one: what is taken comes with the words behind it. -/
namespace L2.K19
open PySem PySem.Spec PyProof.Rows L2.RV
abbrev cW (K : PySem.W.Frag) : Addr := He.ga K "Words"
def wf1 (q : Addr) : List (Str × V) := [("words", .ref q)]
def wf2 (q : Addr) (i : Nat) : List (Str × V) := [("words", .ref q), ("at", .int i)]
def wf (q : Addr) (i : Nat) : List (Str × V) := [("words", .ref q), ("at", .int i), ("line", .int 0)]
/-- the words ws at a, of which i were taken -/
structure WdsAt (K : PySem.W.Frag) (H : Hp) (a : Addr) (ws : List Str) (i : Nat) : Prop where
  ex : ∃ dx q, H a = some (.ins (cW K) dx (wf q i)) ∧ H q = some (.tup (ws.map V.str))
  few : ws.length ≤ 1000
  short : ∀ x, x ∈ ws → x.length ≤ 600
def wAt (ws : List Str) (i : Nat) : V := match ws[i]? with
  | some x => .str x
  | none => .non
def BadAt (K : PySem.W.Frag) (H : Hp) (E : XK) (i : Nat) : Prop := ∀ H' d, Same H H' → ErrX H' d [("line", .int 0), ("word", .int i)] → E (.ref (ca K 10)) (some d) H'
theorem BadAt.same {K : PySem.W.Frag} {H H' : Hp} {E : XK} {i : Nat} (b : BadAt K H E i) (s : Same H H') : BadAt K H' E i := fun H2 d s2 ex => b H2 d (s.trans s2) ex
theorem WdsAt.same {K : PySem.W.Frag} {H H' : Hp} {a : Addr} {ws : List Str} {i : Nat} (x : WdsAt K H a ws i) (s : Same H H') : WdsAt K H' a ws i := by
  obtain ⟨⟨dx, q, e1, e2⟩, f, g⟩ := x
  exact ⟨⟨dx, q, s _ _ e1, s _ _ e2⟩, f, g⟩
theorem WdsAt.ins {K : PySem.W.Frag} {H : Hp} {a : Addr} {ws : List Str} {i : Nat} (x : WdsAt K H a ws i) : ∃ dx q, H a = some (.ins (cW K) dx (wf q i)) := by
  obtain ⟨⟨dx, q, e1, e2⟩, f, g⟩ := x
  exact ⟨dx, q, e1⟩
def spPeek (K : PySem.W.Frag) : Sp := fun vs H Q _ => ∃ a ws i, vs = [.ref a] ∧ WdsAt K H a ws i ∧ Q (wAt ws i) H
def spRefuse (K : PySem.W.Frag) : Sp := fun vs H _ E => ∃ a ws i, vs = [.ref a] ∧ WdsAt K H a ws i ∧ BadAt K H E i
def spBehind (K : PySem.W.Frag) : Sp := fun vs H Q E => ∃ a ws i, vs = [.ref a] ∧ WdsAt K H a ws i ∧ match ws[i]? with
  | some _ => ∀ H' b, Same H H' → WdsAt K H' b ws (i + 1) → Q (.ref b) H'
  | none => BadAt K H E i
def spBehindOne (K : PySem.W.Frag) : Sp := fun vs H Q E => ∃ (a : Addr) (ws : List Str) (i : Nat) (p : Addr) (cs : List Str), vs = [.ref a, .ref p] ∧ WdsAt K H a ws i ∧ (SqL K H p (cs.map V.str) ∨ SqT K H p (cs.map V.str)) ∧ match ws[i]? with
  | some x => if (cs.any fun y => y == x) = true then ∀ H' b, Same H H' → WdsAt K H' b ws (i + 1) → Q (.ref b) H' else BadAt K H E i
  | none => BadAt K H E i
def spTakeOne (K : PySem.W.Frag) : Sp := fun vs H Q E => ∃ (a : Addr) (ws : List Str) (i : Nat) (p : Addr) (cs : List Str), vs = [.ref a, .ref p] ∧ WdsAt K H a ws i ∧ (SqL K H p (cs.map V.str) ∨ SqT K H p (cs.map V.str)) ∧ match ws[i]? with
  | some x => if (cs.any fun y => y == x) = true then ∀ H' t b, Same H H' → H' t = some (.tup [.str x, .ref b]) → WdsAt K H' b ws (i + 1) → Q (.ref t) H' else BadAt K H E i
  | none => BadAt K H E i
def atWhole (ws : List Str) (i : Nat) : Bool := match ws[i]? with
  | some x => wholeText x
  | none => false
def spIsAtWhole (K : PySem.W.Frag) : Sp := fun vs H Q _ => ∃ a ws i, vs = [.ref a] ∧ WdsAt K H a ws i ∧ Q (.bl (atWhole ws i)) H
def spTakeWhole (K : PySem.W.Frag) : Sp := fun vs H Q E => ∃ a ws i, vs = [.ref a] ∧ WdsAt K H a ws i ∧ match ws[i]? with
  | some x => if wholeText x = true then ∀ H' t b, Same H H' → H' t = some (.tup [.int (wholeNum x), .ref b]) → WdsAt K H' b ws (i + 1) → Q (.ref t) H' else BadAt K H E i
  | none => BadAt K H E i
def spEnd (K : PySem.W.Frag) : Sp := fun vs H Q E => ∃ a ws i, vs = [.ref a] ∧ WdsAt K H a ws i ∧ if i < ws.length then BadAt K H E i else Q .non H
/-- Words(words, at, 0) -/
def spWInit (K : PySem.W.Frag) : Sp := fun vs H Q _ => ∃ (x q : Addr) (i : Nat) (dx : Addr), vs = [.ref x, .ref q, .int i, .int 0] ∧ H x = some (.ins (cW K) dx []) ∧
  ∀ H', (∀ b, b ≠ x → H' b = H b) → H' x = some (.ins (cW K) dx (wf q i)) → Q .non H'
/-- words_of(text) -/
def spWordsOf (K : PySem.W.Frag) : Sp := fun vs H Q E => ∃ (v : V), vs = [v, .int 0] ∧ Kinds K H v ∧ match v with
  | .str t => t.length ≤ 60000 ∧ (Txt.split t " ").length ≤ 1000 ∧ (∀ y, y ∈ Txt.split t " " → y.length ≤ 600) ∧ ∀ H' b, Same H H' → WdsAt K H' b (Txt.split t " ") 0 → Q (.ref b) H'
  | _ => BadAt K H E 0
theorem tru_sq {K : PySem.W.Frag} {H : Hp} {p : Addr} {xs : List V} (q : Sq K H p xs) : TruV K (.ref p) H (!xs.isEmpty) := by
  rcases q with q | q
  · exact .inr (.inl ⟨xs, q, rfl⟩)
  · exact .inl ⟨xs, q, rfl⟩
theorem len_sq {K : PySem.W.Frag} {H : Hp} {p : Addr} {xs : List V} (q : Sq K H p xs) : LenV K (.ref p) H xs.length := by
  rcases q with q | q
  · exact .inr ⟨xs, q, rfl⟩
  · exact .inl ⟨xs, q, rfl⟩
theorem ix_sq {K : PySem.W.Frag} {H : Hp} {p : Addr} {xs : List V} {i : Int} {v : V} {Q : VK} (q : Sq K H p xs) (e : atI xs i = some v) (k : Q v H) : rIx K (.ref p) (.int i) H Q := by
  rcases q with q | q
  · exact .inr (.inl ⟨p, xs, i, v, rfl, rfl, q, e, k⟩)
  · exact .inl ⟨p, xs, i, v, rfl, rfl, q, e, k⟩
theorem atI_last {α : Type} {xs : List α} {v : α} (h : xs.getLast? = some v) : atI xs (-1) = some v := by
  cases xs with
  | nil => cases h
  | cons x xs =>
    have hl : 0 < (x :: xs).length := by show 0 < xs.length + 1; omega
    have e : ixN (x :: xs).length (-1) = some ((x :: xs).length - 1) := by
      unfold ixN
      rw [if_neg (by decide), if_pos (by omega)]
      congr 1
      omega
    unfold atI
    rw [e]
    show (x :: xs)[(x :: xs).length - 1]? = some v
    rw [← List.getLast?_eq_getElem?]
    exact h
theorem in_strs (cs : List Str) (x : Str) : inV (.str x) (cs.map V.str) = cs.any fun y => y == x := by
  induction cs with
  | nil => rfl
  | cons c cs ih =>
    rw [List.any_cons, ← ih]
    rfl
theorem in_strs_non (cs : List Str) : inV .non (cs.map V.str) = false := by
  induction cs with
  | nil => rfl
  | cons c cs ih =>
    rw [← ih]
    rfl
/-- Words made behind others -/
theorem made_words {K : PySem.W.Frag} {H H' : Hp} {ws : List Str} {q x dx : Addr} {i : Nat} (hq : H q = some (.tup (ws.map V.str))) (few : ws.length ≤ 1000) (short : ∀ x, x ∈ ws → x.length ≤ 600) (nx : H x = none) (ndx : H dx = none) (nex : x ≠ dx)
    (same : ∀ b, b ≠ x → H' b = (upd (upd H dx (.own x)) x (.ins (cW K) dx [])) b) (hx : H' x = some (.ins (cW K) dx (wf q i))) : Same H H' ∧ WdsAt K H' x ws i := by
  have s : Same H H' := fun b o e => by
    rw [same b (ne_of_none e nx), upd_ne (ne_of_none e nx), upd_ne (ne_of_none e ndx)]
    exact e
  exact ⟨s, ⟨dx, q, hx, s _ _ hq⟩, few, short⟩
section
variable {P : Program} {w : World} {K : PySem.W.Frag} {mg : Str → Option Value} {h base : Heap} {fd : FuncData}
theorem ok_w_init (T : Top w K mg) {f : Addr} (F : FunD K "__init__" "Words.__init__" (defArgs s_Words_init) (defBody s_Words_init) (defScope s_Words_init) [] [] f fd) : FnOk P w K mg base CX0 1 f fd ["self", "words", "at", "line"] (spWInit K) := by
  refine F.ok sc_Words_init (fun vs H Q E h => ?_) (fun cdv A outer s H vs Q E hr h => ?_)
  · obtain ⟨x, q, i, dx, rfl, hx, k⟩ := h
    rfl
  · obtain ⟨x, q, i, dx, rfl, hx, k⟩ := h
    have hu := hr.units
    refine ⟨_, PSs.nox (pss_cons (ps_fld (pv 0) (pv 1) rfl)
      (pss_cons (ps_fld (pv 0) (pv 2) rfl)
      (pss_one (ps_fld (pv 0) (pv 3) rfl)))), ?_⟩
    refine ⟨_, rfl, _, rfl, x, cW K, dx, [], rfl, hx, T.k_Words, T.a_Words_words, (by decide : (0 : Nat) < 1000), ?_⟩
    refine ⟨_, rfl, _, rfl, x, cW K, dx, wf1 q, rfl, upd_same, T.k_Words, T.a_Words_at, (by decide : (1 : Nat) < 1000), ?_⟩
    refine ⟨_, rfl, _, rfl, x, cW K, dx, wf2 q i, rfl, upd_same, T.k_Words, T.a_Words_line, (by decide : (2 : Nat) < 1000), ?_⟩
    exact k _ (fun b nb => by rw [upd_ne nb, upd_ne nb, upd_ne nb]) upd_same
theorem ok_w_refuse (T : Top w K mg) (R_BadText : RzX P w K mg base "BadText" (ca K 10) ["line", "word"]) {f : Addr} (F : FunD K "refuse" "Words.refuse" (defArgs s_Words_refuse) (defBody s_Words_refuse) (defScope s_Words_refuse) [] [] f fd) : FnOk P w K mg base (L2.CX P w) 3 f fd ["self"] (spRefuse K) := by
  refine F.ok sc_Words_refuse (fun vs H Q E h => ?_) (fun cdv A outer s H vs Q E hr h => ?_)
  · obtain ⟨a, ws, i, rfl, wd, k⟩ := h
    rfl
  · obtain ⟨a, ws, i, rfl, wd, k⟩ := h
    have hu := hr.units
    refine ⟨_, (pss_one (ps_rz R_BadText rfl (hr.mono (by decide)) (takes_of rfl rfl rfl rfl) rfl (pa_cons (pe_fld (pv 0) rfl) (pa_cons (pe_fld (pv 0) rfl) pa_nil)))), ?_⟩
    obtain ⟨dx, q, e1, e2⟩ := wd.ex
    refine ⟨_, rfl, a, cW K, dx, wf q i, _, rfl, e1, T.k_Words, T.a_Words_line, rfl, _, rfl, a, cW K, dx, wf q i, _, rfl, e1, T.k_Words, T.a_Words_at, rfl, ?_⟩
    exact rz_ok R_BadText rfl (by decide) fun d H2 s2 ex => k _ d s2 ex
theorem ok_w_peek (T : Top w K mg) {f : Addr} (F : FunD K "peek" "Words.peek" (defArgs s_Words_peek) (defBody s_Words_peek) (defScope s_Words_peek) [] [] f fd) : FnOk P w K mg base CX0 1 f fd ["self"] (spPeek K) := by
  refine F.ok sc_Words_peek (fun vs H Q E h => ?_) (fun cdv A outer s H vs Q E hr h => ?_)
  · obtain ⟨a, ws, i, rfl, wd, k⟩ := h
    rfl
  · obtain ⟨a, ws, i, rfl, wd, k⟩ := h
    have hu := hr.units
    refine ⟨_, PSs.nox (pss_one (ps_ret (pe_ifExp (pt_cmpR op_lt (pe_fld (pv 0) rfl) (pe_callB call_len rfl T.n_len (by decide +kernel) (pa_cons (pe_fld (pv 0) rfl) pa_nil)) (nomark _)) (pe_ix ix_seq (pe_fld (pv 0) rfl) (pe_fld (pv 0) rfl) (fun _ _ => rfl)) pe_non))), ?_⟩
    obtain ⟨dx, q, e1, e2⟩ := wd.ex
    have few := wd.few
    refine ⟨_, rfl, a, cW K, dx, wf q i, _, rfl, e1, T.k_Words, T.a_Words_at, rfl, _, rfl, a, cW K, dx, wf q i, _, rfl, e1, T.k_Words, T.a_Words_words, rfl, _, _, rfl, len_sq (.inl (SqT.of e2)), _, _, rfl, rfl, _, rfl, ?_⟩
    rw [List.length_map]
    refine ite2 (fun c => ?_) (fun c => ?_)
    · have lt : i < ws.length := by have := of_decide_eq_true c; omega
      have e : wAt ws i = .str ws[i] := by unfold wAt; rw [List.getElem?_eq_getElem lt]
      rw [e] at k
      refine ⟨_, rfl, a, cW K, dx, wf q i, _, rfl, e1, T.k_Words, T.a_Words_words, rfl, _, rfl, a, cW K, dx, wf q i, _, rfl, e1, T.k_Words, T.a_Words_at, rfl, ?_⟩
      exact ix_sq (.inl (SqT.of e2)) (atI_nat (by rw [List.getElem?_map, List.getElem?_eq_getElem lt]; rfl)) k
    · have e : wAt ws i = .non := by
        unfold wAt
        rw [List.getElem?_eq_none]
        rcases Nat.lt_or_ge i ws.length with z | z
        · exact absurd (decide_eq_true (by omega : (i : Int) < (ws.length : Int))) c
        · exact z
      rw [e] at k
      exact k
theorem ok_w_behind (T : Top w K mg) (M_peek : MethX CX0 P w K mg base (cW K) "peek" 1 ["self"] (spPeek K)) (M_refuse : MethX (L2.CX P w) P w K mg base (cW K) "refuse" 3 ["self"] (spRefuse K)) (C_Words : MakeX CX0 P w K mg base "Words" (cW K) 1 ["self", "words", "at", "line"] [] (spWInit K)) {f : Addr} (F : FunD K "behind" "Words.behind" (defArgs s_Words_behind) (defBody s_Words_behind) (defScope s_Words_behind) [] [] f fd) : FnOk P w K mg base (L2.CX P w) 4 f fd ["self"] (spBehind K) := by
  refine F.ok sc_Words_behind (fun vs H Q E h => ?_) (fun cdv A outer s H vs Q E hr h => ?_)
  · obtain ⟨a, ws, i, rfl, wd, k⟩ := h
    rfl
  · obtain ⟨a, ws, i, rfl, wd, k⟩ := h
    have hu := hr.units
    refine ⟨_, (pss_cons (ps_if (pt_cmpR op_isN (pe_mX0 M_peek T.k_Words (hr.mono (by decide)) pass_CX0 (pv 0)) pe_non (nomark _)) (pss_one (ps_expr (pe_mX0 M_refuse T.k_Words (hr.mono (by decide)) (passes_call (takes_of rfl rfl rfl rfl) (fun _ _ _ _ h => h)) (pv 0)))) pss_nil)
      (pss_one (ps_ret (pe_mkX C_Words (hr.mono (by decide)) rfl pass_CX0 (pa_cons (pe_fld (pv 0) rfl) (pa_cons (pe_op op_plus (pe_fld (pv 0) rfl) pe_int) (pa_cons (pe_fld (pv 0) rfl) pa_nil))))))), ?_⟩
    obtain ⟨dx, q, e1, e2⟩ := wd.ex
    refine ⟨_, rfl, a, dx, wf q i, rfl, e1, rfl, a, ws, i, rfl, wd, ?_⟩
    cases e : ws[i]? with
    | none =>
      rw [e] at k
      have ew : wAt ws i = .non := by unfold wAt; rw [e]
      rw [ew]
      refine ⟨rfl, _, rfl, ?_⟩
      exact ⟨_, rfl, a, dx, wf q i, rfl, e1, rfl, a, ws, i, rfl, wd, k⟩
    | some x =>
      rw [e] at k
      have ew : wAt ws i = .str x := by unfold wAt; rw [e]
      rw [ew]
      refine ⟨rfl, _, rfl, ?_⟩
      refine ⟨_, rfl, a, cW K, dx, wf q i, _, rfl, e1, T.k_Words, T.a_Words_words, rfl, _, rfl, a, cW K, dx, wf q i, _, rfl, e1, T.k_Words, T.a_Words_at, rfl, .inl ⟨_, _, rfl, rfl, _, rfl, a, cW K, dx, wf q i, _, rfl, e1, T.k_Words, T.a_Words_line, rfl, fun x' dx' nx ndx nex => ⟨x', q, i + 1, dx', rfl, upd_same, fun H' sm hx => ⟨rfl, ?_⟩⟩⟩⟩
      obtain ⟨s, wd'⟩ := made_words e2 wd.few wd.short nx ndx nex.symm sm hx
      exact k _ _ s wd'
theorem ok_w_behind_one (T : Top w K mg) (M_peek : MethX CX0 P w K mg base (cW K) "peek" 1 ["self"] (spPeek K)) (M_refuse : MethX (L2.CX P w) P w K mg base (cW K) "refuse" 3 ["self"] (spRefuse K)) (M_behind : MethX (L2.CX P w) P w K mg base (cW K) "behind" 4 ["self"] (spBehind K)) {f : Addr} (F : FunD K "behind_one" "Words.behind_one" (defArgs s_Words_behind_one) (defBody s_Words_behind_one) (defScope s_Words_behind_one) [] [] f fd) : FnOk P w K mg base (L2.CX P w) 5 f fd ["self", "choices"] (spBehindOne K) := by
  refine F.ok sc_Words_behind_one (fun vs H Q E h => ?_) (fun cdv A outer s H vs Q E hr h => ?_)
  · obtain ⟨a, ws, i, p, cs, rfl, wd, sq, k⟩ := h
    rfl
  · obtain ⟨a, ws, i, p, cs, rfl, wd, sq, k⟩ := h
    have hu := hr.units
    refine ⟨_, (pss_cons (ps_if (pt_cmpR op_notIn_seq (pe_mX0 M_peek T.k_Words (hr.mono (by decide)) pass_CX0 (pv 0)) (pv 1) rfl) (pss_one (ps_expr (pe_mX0 M_refuse T.k_Words (hr.mono (by decide)) (passes_call (takes_of rfl rfl rfl rfl) (fun _ _ _ _ h => h)) (pv 0)))) pss_nil)
      (pss_one (ps_ret (pe_mX0 M_behind T.k_Words (hr.mono (by decide)) (passes_call (takes_of rfl rfl rfl rfl) (fun _ _ _ _ h => h)) (pv 0))))), ?_⟩
    obtain ⟨dx, q, e1, e2⟩ := wd.ex
    refine ⟨_, rfl, a, dx, wf q i, rfl, e1, rfl, a, ws, i, rfl, wd, ?_⟩
    have all : (cs.map V.str).all flatV = true := List.all_eq_true.mpr fun v hv => by
      obtain ⟨y, _, rfl⟩ := List.mem_map.mp hv
      rfl
    cases e : ws[i]? with
    | none =>
      rw [e] at k
      have ew : wAt ws i = .non := by unfold wAt; rw [e]
      rw [ew]
      refine ⟨_, rfl, p, cs.map V.str, rfl, sq, rfl, all, _, rfl, ?_⟩
      have n : inV .non (cs.map V.str) = false := in_strs_non cs
      show if (!inV .non (cs.map V.str)) = true then _ else _
      rw [n]
      exact ⟨_, rfl, a, dx, wf q i, rfl, e1, rfl, a, ws, i, rfl, wd, k⟩
    | some x =>
      rw [e] at k
      have ew : wAt ws i = .str x := by unfold wAt; rw [e]
      rw [ew]
      refine ⟨_, rfl, p, cs.map V.str, rfl, sq, rfl, all, _, rfl, ?_⟩
      have n : inV (.str x) (cs.map V.str) = cs.any fun y => y == x := in_strs cs x
      show if (!inV (.str x) (cs.map V.str)) = true then _ else _
      rw [n]
      have k' : if (cs.any fun y => y == x) = true then ∀ H' b, Same H H' → WdsAt K H' b ws (i + 1) → Q (.ref b) H' else BadAt K H E i := k
      cases b : cs.any fun y => y == x with
      | false =>
        rw [b] at k'
        exact ⟨_, rfl, a, dx, wf q i, rfl, e1, rfl, a, ws, i, rfl, wd, k'⟩
      | true =>
        rw [b] at k'
        refine ⟨_, rfl, a, dx, wf q i, rfl, e1, rfl, a, ws, i, rfl, wd, ?_⟩
        rw [e]
        exact k'
theorem ok_w_take_one (T : Top w K mg) (M_peek : MethX CX0 P w K mg base (cW K) "peek" 1 ["self"] (spPeek K)) (M_behind_one : MethX (L2.CX P w) P w K mg base (cW K) "behind_one" 5 ["self", "choices"] (spBehindOne K)) {f : Addr} (F : FunD K "take_one" "Words.take_one" (defArgs s_Words_take_one) (defBody s_Words_take_one) (defScope s_Words_take_one) [] [] f fd) : FnOk P w K mg base (L2.CX P w) 6 f fd ["self", "choices"] (spTakeOne K) := by
  refine F.ok sc_Words_take_one (fun vs H Q E h => ?_) (fun cdv A outer s H vs Q E hr h => ?_)
  · obtain ⟨a, ws, i, p, cs, rfl, wd, sq, k⟩ := h
    rfl
  · obtain ⟨a, ws, i, p, cs, rfl, wd, sq, k⟩ := h
    have hu := hr.units
    refine ⟨_, (pss_one (ps_ret (pe_tup (pa_cons (pe_mX0 M_peek T.k_Words (hr.mono (by decide)) pass_CX0 (pv 0)) (pa_cons (pe_mX M_behind_one T.k_Words (hr.mono (by decide)) (passes_call (takes_of rfl rfl rfl rfl) (fun _ _ _ _ h => h)) (pv 0) (pa_cons (pv 1) pa_nil)) pa_nil))))), ?_⟩
    obtain ⟨dx, q, e1, e2⟩ := wd.ex
    refine ⟨_, rfl, a, dx, wf q i, rfl, e1, rfl, a, ws, i, rfl, wd, ⟨_, rfl, a, dx, wf q i, rfl, e1, rfl, _, rfl, a, ws, i, p, cs, rfl, wd, sq, ?_⟩⟩
    cases e : ws[i]? with
    | none =>
      rw [e] at k
      exact k
    | some x =>
      rw [e] at k
      have ew : wAt ws i = .str x := by unfold wAt; rw [e]
      rw [ew]
      have k' : if (cs.any fun y => y == x) = true then ∀ H' t b, Same H H' → H' t = some (.tup [.str x, .ref b]) → WdsAt K H' b ws (i + 1) → Q (.ref t) H' else BadAt K H E i := k
      show if (cs.any fun y => y == x) = true then _ else _
      cases b : cs.any fun y => y == x with
      | false =>
        rw [b] at k'
        exact k'
      | true =>
        rw [b] at k'
        exact fun H' b' s wd' => ⟨(by decide : (2 : Nat) ≤ sizeLine), fun t nt => k' _ t b' (s.trans (same_new nt)) upd_same (wd'.same (same_new nt))⟩
theorem ok_w_is_at_whole (T : Top w K mg) (D_is_whole_text : Def P w K mg base "is_whole_text" 1 ["word"] spWText) (M_peek : MethX CX0 P w K mg base (cW K) "peek" 1 ["self"] (spPeek K)) {f : Addr} (F : FunD K "is_at_whole" "Words.is_at_whole" (defArgs s_Words_is_at_whole) (defBody s_Words_is_at_whole) (defScope s_Words_is_at_whole) [] [] f fd) : FnOk P w K mg base CX0 3 f fd ["self"] (spIsAtWhole K) := by
  refine F.ok sc_Words_is_at_whole (fun vs H Q E h => ?_) (fun cdv A outer s H vs Q E hr h => ?_)
  · obtain ⟨a, ws, i, rfl, wd, k⟩ := h
    rfl
  · obtain ⟨a, ws, i, rfl, wd, k⟩ := h
    have hu := hr.units
    refine ⟨_, PSs.nox (pss_cons (ps_set (i := 1) sc_Words_is_at_whole.nd rfl (by first | exact Or.inl rfl | exact Or.inr rfl) (pe_mX0 M_peek T.k_Words (hr.mono (by decide)) pass_CX0 (pv 0)))
      (pss_one (ps_ret (pe_and (pe_cmpR op_notN (pv 1) pe_non (nomark _)) (pe_one (pe_callD D_is_whole_text (hr.mono (by decide)) rfl (pa_cons (pv 1) pa_nil))))))), ?_⟩
    obtain ⟨dx, q, e1, e2⟩ := wd.ex
    refine ⟨_, rfl, a, dx, wf q i, rfl, e1, rfl, a, ws, i, rfl, wd, ?_⟩
    cases e : ws[i]? with
    | none =>
      have ew : wAt ws i = .non := by unfold wAt; rw [e]
      have ea : atWhole ws i = false := by unfold atWhole; rw [e]
      rw [ea] at k
      rw [ew]
      exact ⟨_, rfl, rfl, _, rfl, k⟩
    | some x =>
      have ew : wAt ws i = .str x := by unfold wAt; rw [e]
      have ea : atWhole ws i = wholeText x := by unfold atWhole; rw [e]
      rw [ea] at k
      rw [ew]
      have lx := wd.short x (List.mem_of_getElem? e)
      exact ⟨_, rfl, rfl, _, rfl, _, rfl, x, rfl, by rw [sizeLine_eq]; omega, k⟩
theorem ok_w_take_whole (T : Top w K mg) (D_whole_of : Def P w K mg base "whole_of" 1 ["word"] spWholeOf) (M_is_at_whole : MethX CX0 P w K mg base (cW K) "is_at_whole" 3 ["self"] (spIsAtWhole K)) (M_peek : MethX CX0 P w K mg base (cW K) "peek" 1 ["self"] (spPeek K)) (M_refuse : MethX (L2.CX P w) P w K mg base (cW K) "refuse" 3 ["self"] (spRefuse K)) (M_behind : MethX (L2.CX P w) P w K mg base (cW K) "behind" 4 ["self"] (spBehind K)) {f : Addr} (F : FunD K "take_whole" "Words.take_whole" (defArgs s_Words_take_whole) (defBody s_Words_take_whole) (defScope s_Words_take_whole) [] [] f fd) : FnOk P w K mg base (L2.CX P w) 5 f fd ["self"] (spTakeWhole K) := by
  refine F.ok sc_Words_take_whole (fun vs H Q E h => ?_) (fun cdv A outer s H vs Q E hr h => ?_)
  · obtain ⟨a, ws, i, rfl, wd, k⟩ := h
    rfl
  · obtain ⟨a, ws, i, rfl, wd, k⟩ := h
    have hu := hr.units
    refine ⟨_, (pss_cons (ps_if (pt_not (pt_val (pe_mX0 M_is_at_whole T.k_Words (hr.mono (by decide)) pass_CX0 (pv 0)))) (pss_one (ps_expr (pe_mX0 M_refuse T.k_Words (hr.mono (by decide)) (passes_call (takes_of rfl rfl rfl rfl) (fun _ _ _ _ h => h)) (pv 0)))) pss_nil)
      (pss_one (ps_ret (pe_tup (pa_cons (pe_callD D_whole_of (hr.mono (by decide)) rfl (pa_cons (pe_mX0 M_peek T.k_Words (hr.mono (by decide)) pass_CX0 (pv 0)) pa_nil)) (pa_cons (pe_mX0 M_behind T.k_Words (hr.mono (by decide)) (passes_call (takes_of rfl rfl rfl rfl) (fun _ _ _ _ h => h)) (pv 0)) pa_nil)))))), ?_⟩
    obtain ⟨dx, q, e1, e2⟩ := wd.ex
    refine ⟨_, rfl, a, dx, wf q i, rfl, e1, rfl, a, ws, i, rfl, wd, _, rfl, ?_⟩
    show if (!atWhole ws i) = true then _ else _
    cases e : ws[i]? with
    | none =>
      rw [e] at k
      have ea : atWhole ws i = false := by unfold atWhole; rw [e]
      rw [ea]
      exact ⟨_, rfl, a, dx, wf q i, rfl, e1, rfl, a, ws, i, rfl, wd, k⟩
    | some x =>
      rw [e] at k
      have ea : atWhole ws i = wholeText x := by unfold atWhole; rw [e]
      rw [ea]
      have k' : if wholeText x = true then ∀ H' t b, Same H H' → H' t = some (.tup [.int (wholeNum x), .ref b]) → WdsAt K H' b ws (i + 1) → Q (.ref t) H' else BadAt K H E i := k
      have lx := wd.short x (List.mem_of_getElem? e)
      cases b : wholeText x with
      | false =>
        rw [b] at k'
        exact ⟨_, rfl, a, dx, wf q i, rfl, e1, rfl, a, ws, i, rfl, wd, k'⟩
      | true =>
        rw [b] at k'
        obtain ⟨w1, w2⟩ := whole_digits b lx
        have ew : wAt ws i = .str x := by unfold wAt; rw [e]
        refine ⟨_, rfl, a, dx, wf q i, rfl, e1, rfl, a, ws, i, rfl, wd, ?_⟩
        rw [ew]
        refine ⟨x, rfl, by omega, w1, w2, _, rfl, a, dx, wf q i, rfl, e1, rfl, a, ws, i, rfl, wd, ?_⟩
        rw [e]
        exact fun H' b' s wd' => ⟨(by decide : (2 : Nat) ≤ sizeLine), fun t nt => k' _ t b' (s.trans (same_new nt)) upd_same (wd'.same (same_new nt))⟩
theorem ok_w_end (T : Top w K mg) (M_refuse : MethX (L2.CX P w) P w K mg base (cW K) "refuse" 3 ["self"] (spRefuse K)) {f : Addr} (F : FunD K "end" "Words.end" (defArgs s_Words_end) (defBody s_Words_end) (defScope s_Words_end) [] [] f fd) : FnOk P w K mg base (L2.CX P w) 4 f fd ["self"] (spEnd K) := by
  refine F.ok sc_Words_end (fun vs H Q E h => ?_) (fun cdv A outer s H vs Q E hr h => ?_)
  · obtain ⟨a, ws, i, rfl, wd, k⟩ := h
    rfl
  · obtain ⟨a, ws, i, rfl, wd, k⟩ := h
    have hu := hr.units
    refine ⟨_, (pss_one (ps_if (pt_cmpR op_lt (pe_fld (pv 0) rfl) (pe_callB call_len rfl T.n_len (by decide +kernel) (pa_cons (pe_fld (pv 0) rfl) pa_nil)) (nomark _)) (pss_one (ps_expr (pe_mX0 M_refuse T.k_Words (hr.mono (by decide)) (passes_call (takes_of rfl rfl rfl rfl) (fun _ _ _ _ h => h)) (pv 0)))) pss_nil)), ?_⟩
    obtain ⟨dx, q, e1, e2⟩ := wd.ex
    refine ⟨_, rfl, a, cW K, dx, wf q i, _, rfl, e1, T.k_Words, T.a_Words_at, rfl, _, rfl, a, cW K, dx, wf q i, _, rfl, e1, T.k_Words, T.a_Words_words, rfl, _, _, rfl, len_sq (.inl (SqT.of e2)), _, _, rfl, rfl, _, rfl, ?_⟩
    rw [List.length_map]
    refine ite2 (fun c => ?_) (fun c => ?_)
    · have lt : i < ws.length := by have := of_decide_eq_true c; omega
      rw [if_pos lt] at k
      exact ⟨_, rfl, a, dx, wf q i, rfl, e1, rfl, a, ws, i, rfl, wd, k⟩
    · have ge : ¬ i < ws.length := fun z => c (decide_eq_true (by omega))
      rw [if_neg ge] at k
      exact k
theorem ok_words_of (T : Top w K mg) (R_BadText : RzX P w K mg base "BadText" (ca K 10) ["line", "word"]) (C_Words : MakeX CX0 P w K mg base "Words" (cW K) 1 ["self", "words", "at", "line"] [] (spWInit K)) {f : Addr}
    (F : FunD K "words_of" "words_of" (defArgs s_words_of) (defBody s_words_of) (defScope s_words_of) [.int 0] [] f fd) : FnOk P w K mg base (L2.CX P w) 4 f fd ["text", "line"] (spWordsOf K) := by
  refine F.ok sc_words_of (fun vs H Q E h => ?_) (fun cdv A outer s H vs Q E hr h => ?_)
  · obtain ⟨v, rfl, _⟩ := h
    rfl
  · obtain ⟨v, rfl, kd, k⟩ := h
    have hu := hr.units
    refine ⟨_, (pss_cons (ps_if (pt_not (pt_val (pe_callB call_isi rfl T.n_isinstance (by decide +kernel) (pa_cons (pv 0) (pa_cons (pe_bltn (v := .ty "str") (u := .type "str") rfl T.n_str (by decide +kernel) rfl) pa_nil))))) (pss_one (ps_rz R_BadText rfl (hr.mono (by decide)) (takes_of rfl rfl rfl rfl) rfl (pa_cons pe_int (pa_cons pe_int pa_nil)))) pss_nil)
      (pss_one (ps_ret (pe_mkX C_Words (hr.mono (by decide)) rfl pass_CX0 (pa_cons (pe_callTy call_tuple_of rfl T.n_tuple (by decide +kernel) (pa_cons (pe_bm PySem.F.plainAttrs_str PySem.F.slot_str_split PySem.F.type_str_split mt_split (pv 0) (pa_cons pe_str pa_nil)) pa_nil)) (pa_cons pe_int (pa_cons (pv 1) pa_nil))))))), ?_⟩
    obtain ⟨n, ty, ki, kb, ks⟩ := kd.ex
    refine ⟨_, rfl, _, _, _, _, _, rfl, .ty "str", ty, kit_ty ks, _, rfl, ?_⟩
    cases v with
    | str t =>
      obtain ⟨lt, few, short, k⟩ := k
      refine ⟨_, rfl, rfl, _, _, rfl, rfl, by decide +kernel, by rw [sizeLine_eq]; omega, fun q nq => ⟨_, _, rfl, .inl ⟨SqL.of upd_same, fun l nl => ⟨_, rfl, fun x dx nx ndx nex => ⟨x, l, 0, dx, rfl, upd_same, fun H' sm hx => ⟨rfl, ?_⟩⟩⟩⟩⟩⟩
      obtain ⟨s, wd⟩ := made_words (ws := Txt.split t " ") upd_same few short nx ndx nex.symm sm hx
      exact k _ _ (((same_new nq).trans (same_new nl)).trans s) wd
    | _ => exact rz_ok R_BadText rfl (by decide) fun d H2 s2 ex => k _ d s2 ex
end
end L2.K19
set_option Elab.async false
set_option linter.all false
set_option maxRecDepth 100000
set_option maxHeartbeats 4000000
/-! The text of a question, the very letters. -/
namespace L2.K19
open PySem PySem.Spec PyProof.Rows L2.RV
theorem len_app (x y : Str) : (x ++ y).length = x.length + y.length := by rw [TL.len_tl, TL.tl_append, List.length_append, ← TL.len_tl, ← TL.len_tl]
theorem join_len (y : Str) (ps : List Str) : (Txt.join y ps).length ≤ (ps.map (·.length)).sum + ps.length * y.length := by
  rw [TL.join_eq]
  induction ps with
  | nil => exact Nat.zero_le _
  | cons p r ih =>
    cases r with
    | nil =>
      show p.length ≤ _
      rw [List.map_cons, List.sum_cons]
      omega
    | cons q r =>
      show (p ++ y ++ Str.join y (q :: r)).length ≤ _
      rw [len_app, len_app, List.map_cons, List.sum_cons, List.length_cons, Nat.succ_mul]
      omega
/-- the row of a place -/
def rowT (ws : List (Pl × Int)) (p : Pl) : Str := Str.empty ++ intS (atD ws p) ++ " " ++ p.1 ++ " " ++ intS p.2
def qText (ws : List (Pl × Int)) : Str := if ws = [] then "-" else Txt.join " , " (ws.map fun z => rowT ws z.1)
def Lim (ws : List (Pl × Int)) : Prop := ∀ z ∈ ws, (atD ws z.1).natAbs < 10 ^ 600
theorem day_len {n : Nat} (h : n < 8) : (intS (n : Int)).length ≤ 601 := by
  have all : ∀ n : Fin 8, (intS ((n.val : Nat) : Int)).length ≤ 601 := by decide +kernel
  exact all ⟨n, h⟩
theorem intS_len {n : Int} (h : n.natAbs < 10 ^ 600) : (intS n).length ≤ 601 := by
  have l := TL.numL_len (k := 600) (by decide) h
  rw [TL.len_tl, tl_int]
  split
  · rw [List.length_cons]
    omega
  · omega
/-- str(question): rows of weight, key and day -/
def spQStr (K : PySem.W.Frag) : Sp := fun vs H Q _ => ∃ q s t ks d ws, vs = [.ref q] ∧ HeldX K H "Question" "weights" q s t ws ∧ ShapeAt K H s ks d ∧ (∀ z ∈ ws, z.1 ∈ placesOf ks d) ∧ ws.length ≤ 36 ∧ Lim ws ∧ ∀ H', Same H H' → Q (.str (qText ws)) H'
section
variable {P : Program} {w : World} {K : PySem.W.Frag} {mg : Str → Option Value} {base : Heap} {fd : FuncData}
theorem ok_question_str (T : Top w K mg) (D_whole_text : Def P w K mg base "whole_text" 1 ["number"] spWhEx) (S_Question_getitem : MethS (L2.CX P w) P w K mg base (He.ga K "Question") "__getitem__" 4 ["self", "at"] (spAt K "Question" "weights")) {f : Addr} (F : FunD K "__str__" "Question.__str__" (defArgs s_Question_str) (defBody s_Question_str) (defScope s_Question_str) [] [] f fd) : FnOk P w K mg base CX0 6 f fd ["self"] (spQStr K) := by
  refine F.ok sc_Question_str (fun vs H Q E h => ?_) (fun cdv A outer s H vs Q E hr h => ?_)
  · obtain ⟨q, sa, t, ks, d, ws, rfl, _⟩ := h
    rfl
  · obtain ⟨q, sa, t, ks, d, ws, rfl, hq, s0, mem, few, bw, k⟩ := h
    have hu := hr.units
    refine ⟨_, PSs.nox (pss_cons (ps_if (pt_cmpR (op_eqT (Nat.lt_of_le_of_lt (Nat.add_le_add_left (by decide) _) hu)) (pe_fldK (K := K) rfl (pv 0) rfl) pe_dnewT (nomark _)) (pss_one (ps_ret pe_str)) pss_nil)
      (pss_one (ps_ret (pe_bm PySem.F.plainAttrs_str PySem.F.slot_str_join PySem.F.type_str_join mt_join pe_str (pa_cons (pe_lock (pe_lc (own := [("key", 1), ("day", 2)]) (g := gTup K 2 (gCons (gName 1) (gCons (gName 2) gNil))) (tt := tYes) (by rfl) sc_Question_str.nd (pi_keys (pe_fldK (K := K) rfl (pv 0) rfl)) (blkOk_by (own := [("key", 1), ("day", 2)]) (N := ["self", "key", "day"]) (sc := defScope s_Question_str) (by decide +kernel)) (fun _ _ _ _ _ => by exact (pg_tup rfl (pgs_cons (pg_name (i := 1) sc_Question_str.nd rfl (by first | exact Or.inl rfl | exact Or.inr rfl)) (pgs_cons (pg_name (i := 2) sc_Question_str.nd rfl (by first | exact Or.inl rfl | exact Or.inr rfl)) pgs_nil)))) (fun _ _ _ _ _ => by exact pts_nil) (fun _ _ _ _ _ => by exact (pe_fs (.cons (pe_fmt (pe_callD D_whole_text (hr.mono (by decide)) rfl (pa_cons (pe_ixO S_Question_getitem (hr.mono (by decide)) pass_E0 (pv 0) (pe_tup (pa_cons (pv 1) (pa_cons (pv 2) pa_nil)))) pa_nil))) (.cons pe_str (.cons (pe_fmt (pv 1)) (.cons pe_str (.cons (pe_fmt (pv 2)) .nil))))))))) pa_nil))))), ?_⟩
    have hh := hq.held
    obtain ⟨dx, fs, e1, e2, e3, e4⟩ := hq
    refine ⟨_, rfl, q, _, dx, _, _, rfl, e1, T.k_Question, T.a_Question_weights, e3, fun Z hZ => ?_⟩
    have sZ := same_new (o := .dT []) hZ
    refine ⟨t, Z, plD ws, [], rfl, rfl, sZ _ _ e4, upd_same, ints_plD ws, fun _ z => absurd z List.not_mem_nil, _, rfl, ?_⟩
    refine ite2 (fun c => ?_) (fun c => ?_)
    · have e0 : ws = [] := by
        cases ws with
        | nil => rfl
        | cons z ws => exact absurd c (by intro q; cases q)
      have e : qText ws = "-" := by unfold qText; rw [if_pos e0]
      rw [e] at k
      exact k _ sZ
    have ne : ws ≠ [] := fun e => by
      rw [e] at c
      exact c rfl
    have eq : qText ws = Txt.join " , " (ws.map fun z => rowT ws z.1) := by unfold qText; rw [if_neg ne]
    rw [eq] at k
    have hh1 := hh.kp (.of sZ)
    have e1' := sZ _ _ e1
    have e4' := sZ _ _ e4
    have s01 := s0.kp (.of sZ)
    have k1 : ∀ H', Same (upd H Z (.dT [])) H' → Q (.str (Txt.join " , " (ws.map fun z => rowT ws z.1))) H' := fun H' s => k H' (sZ.trans s)
    generalize upd H Z (.dT []) = H1 at hh1 e1' e4' s01 k1 ⊢
    clear sZ hh e1 e4 s0 k
    with_reducible refine nxU ?_
    with_reducible refine retU ?_
    refine ⟨rfl, ?_⟩
    refine ⟨t, .dT (plD ws), e4', True.intro, fun od => ?_⟩
    have lk : Kp0 H1 (upd H1 t (.frz od (.dT (plD ws)))) := Kp.lock e4'
    have e1l := lk.fix _ (.ins _ _ _) True.intro e1'
    refine ⟨_, rfl, q, _, dx, _, _, rfl, e1l, T.k_Question, T.a_Question_weights, e3, t, od, rfl, .inr ⟨plD ws, upd_same, fun D hD => ?_⟩⟩
    have lw : (plD ws).length = ws.length := List.length_map ..
    refine lc_it walk_keysT (fun i H' => (H' D = some (.lst (((ws.take i).map fun z => rowT ws z.1).map V.str))) ∧ Same (upd H1 t (.frz od (.dT (plD ws)))) H') ⟨upd_same, same_new hD⟩ (fun i H' _ e => e.2 _ _ upd_same) (fun i x H2 H3 lt e y => ?_) (fun H' e => ?_)
    · obtain ⟨hDl, sm⟩ := e
      obtain ⟨rfl, key, v, b, hkv, rfl, hb⟩ := y
      obtain ⟨z, hzi, rfl, rfl⟩ : ∃ z, ws[i]? = some z ∧ key = plK z.1 ∧ v = V.int z.2 := by
        unfold plD at hkv
        rw [List.getElem?_map] at hkv
        obtain ⟨z, hz, e⟩ := Option.map_eq_some_iff.mp hkv
        cases e
        exact ⟨z, hz, rfl, rfl⟩
      have hz := List.mem_of_getElem? hzi
      refine ⟨b, plV z.1, rfl, SqT.of hb, rfl, _, _, rfl, _, _, rfl, rfl, rfl, ?_⟩
      with_reducible refine yesU ?_
      refine ⟨_, rfl, _, rfl, _, rfl, by show 2 ≤ sizeLine; decide, fun p np => ?_⟩
      have s3 := sm.trans (same_new (o := .tup [.str z.1.1, .int z.1.2]) np)
      have h3 := hh1.kp (lk.trans (.of s3))
      have s03 := s01.kp (lk.trans (.of s3))
      have g1 := s3 _ _ e1l
      refine ⟨q, dx, fs, rfl, g1, q, p, sa, ks, d, ws, z.1, rfl, h3, s03, upd_same, mem _ hz, _, rfl, bw z hz, fun H4 s4 => ?_⟩
      have ly4 := intS_len (bw z hz)
      obtain ⟨y, hy⟩ : ∃ y, Str.ofString (toString (atD ws z.1)) = y := ⟨_, rfl⟩
      have ly4 : y.length ≤ 601 := hy ▸ ly4
      rw [hy]
      have l8 : z.1.1.length ≤ 8 := (name_ok (s01.ok.names _ (mem_places.mp (mem _ hz)).1)).2
      have d8 : z.1.2 < 8 := Nat.lt_of_lt_of_le (mem_places.mp (mem _ hz)).2 s01.ok.d8
      have lg : ((z.1.2 : Nat) : Int).natAbs.log2 < 1920 := by
        show z.1.2.log2 < 1920
        rcases Nat.eq_zero_or_pos z.1.2 with zz | zz
        · rw [zz]; decide
        · have := (Nat.log2_lt (n := z.1.2) (k := 3) (by omega)).mpr d8
          omega
      have ld : (Str.ofString (toString ((z.1.2 : Nat) : Int))).length ≤ 1921 := int_text_len_1921 lg
      have hDl4 : H4 D = some (.lst (((ws.take i).map fun z => rowT ws z.1).map V.str)) := s4 _ _ ((upd_ne (fun zz => by rw [zz, np] at hDl; cases hDl)).trans hDl)
      refine .inl ⟨y, rfl, by rw [sizeLine_eq]; omega, y, rfl, ?_, _, rfl, ?_, _, rfl, .inl ⟨z.1.1, rfl, by rw [sizeLine_eq]; omega, z.1.1, rfl, ?_, _, rfl, ?_, _, rfl, ?_⟩⟩
      rotate_left 4
      refine .inr ⟨(z.1.2 : Int), rfl, ?_, _, rfl, ?_, ?_⟩
      rotate_left 2
      show ∃ acc, H4 D = some (HO.lst acc) ∧ _
      refine ⟨_, hDl4, ?_, ?_, ?_⟩
      · rw [List.length_map, List.length_map, List.length_take, sizeLine_eq]
        omega
      · rw [upd_same, List.take_succ, hzi, List.map_append, List.map_append]
        show _ = some (HO.lst (_ ++ [V.str (rowT ws z.1)]))
        unfold rowT intS
        rw [hy]
      · intro c o ec
        have nc : c ≠ D := ne_of_none ec hD
        exact (upd_ne nc).trans (s4 _ _ (s3 c o ec))
      · rw [len_app, sizeLine_eq]
        show 0 + y.length ≤ 16777216
        omega
      · rw [len_app, len_app, sizeLine_eq]
        show 0 + y.length + 1 ≤ 16777216
        omega
      · rw [len_app, len_app, len_app, sizeLine_eq]
        show 0 + y.length + 1 + z.1.1.length ≤ 16777216
        omega
      · rw [len_app, len_app, len_app, len_app, sizeLine_eq]
        show 0 + y.length + 1 + z.1.1.length + 1 ≤ 16777216
        omega
      · exact lg
      · rw [len_app, len_app, len_app, len_app, len_app, sizeLine_eq]
        show 0 + y.length + 1 + z.1.1.length + 1 + (Str.ofString (toString ((z.1.2 : Nat) : Int))).length ≤ 16777216
        omega
    · obtain ⟨hDl, sm⟩ := e
      refine ⟨sm _ _ upd_same, ?_⟩
      have nDt : D ≠ t := fun z => by rw [z, upd_same] at hD; cases hD
      have sum : ∀ zs : List Str, (∀ y ∈ zs, y.length ≤ 5000) → (zs.map (·.length)).sum ≤ 5000 * zs.length := by
        intro zs
        induction zs with
        | nil => intro _; exact Nat.le_refl _
        | cons y r ih =>
          intro h
          have a := h y List.mem_cons_self
          have b := ih fun x hx => h x (List.mem_cons_of_mem _ hx)
          rw [List.map_cons, List.sum_cons, List.length_cons]
          omega
      have tk : ws.take (plD ws).length = ws := by rw [lw]; exact List.take_length
      rw [tk] at hDl
      have z := sum (ws.map fun z => rowT ws z.1) fun y hy => by
        obtain ⟨z, hz, rfl⟩ := List.mem_map.mp hy
        have l8 : z.1.1.length ≤ 8 := (name_ok (s01.ok.names _ (mem_places.mp (mem _ hz)).1)).2
        have d8 : z.1.2 < 8 := Nat.lt_of_lt_of_le (mem_places.mp (mem _ hz)).2 s01.ok.d8
        have a := intS_len (bw z hz)
        have b := day_len d8
        unfold rowT
        rw [len_app, len_app, len_app, len_app, len_app]
        have s0 : Str.empty.length = 0 := rfl
        have s1 : (Str.ofString " ").length = 1 := by decide +kernel
        rw [s0, s1]
        omega
      rw [List.length_map] at z
      have jl := join_len (Str.ofString " , ") (ws.map fun z => rowT ws z.1)
      have l3 : (Str.ofString " , ").length = 3 := by decide
      rw [l3, List.length_map] at jl
      have eD : (upd H' t (.dT (plD ws))) D = some (.lst ((ws.map fun z => rowT ws z.1).map V.str)) := by
        rw [upd_ne nDt]
        exact hDl
      refine ⟨_, D, ws.map fun z => rowT ws z.1, rfl, rfl, ?_, ?_, ?_⟩
      · refine .inl (SqL.of ?_)
        exact eD
      · rw [List.length_map, l3]
        omega
      · show Q _ _
        refine k1 _ (fun b o ob => ?_)
        by_cases n : b = t
        · subst n
          rw [upd_same, ← e4', ob]
        · exact (upd_ne n).trans (sm _ _ ((upd_ne n).trans ob))
end
end L2.K19
set_option Elab.async false
set_option linter.all false
set_option maxRecDepth 100000
set_option maxHeartbeats 4000000
/-! The weight and the place of a row, taken from the words. -/
namespace L2.K19
open PySem PySem.Spec PyProof.Rows L2.RV
/-- a word that is a weight's text -/
def isW (x : Str) : Bool := wholeText x && !decide (x = "0")
/-- the place of these that two words name -/
def isP (ps : List Pl) (x y : Str) : Bool := ps.any fun p => decide (p.1 = x) && decide (intS p.2 = y)
/-- the first of a place's two -/
def firstK (k : List L2.Key) : V := match k with
  | x :: _ => kV x
  | [] => .non
theorem log8 {n : Nat} (h : n < 8) : ((n : Nat) : Int).natAbs.log2 < 1920 := by
  have all : ∀ n : Fin 8, ((n.val : Nat) : Int).natAbs.log2 < 1920 := by decide +kernel
  exact all ⟨n, h⟩
theorem int_text8 {n : Nat} (h : n < 8) : PySem.intText? (intS (n : Int)) = some (n : Int) ∧ (intS (n : Int)).length ≤ 640 := by
  have all : ∀ n : Fin 8, PySem.intText? (intS ((n.val : Nat) : Int)) = some ((n.val : Nat) : Int) ∧ (intS ((n.val : Nat) : Int)).length ≤ 640 := by decide +kernel
  exact all ⟨n, h⟩
def secondK (k : List L2.Key) : V := match k with
  | [_, .inl n] => .str (intS n)
  | _ => .non
/-- take_place(words, shape, n - 1) -/
def spTakePlace (K : PySem.W.Frag) : Sp := fun vs H Q E => ∃ (a s : Addr) (n : Nat) (ws : List Str) (i : Nat) (ks : List Str) (d : Nat), vs = [.ref a, .ref s, .int ((n : Int) - 1)] ∧ WdsAt K H a ws i ∧ ShapeAt K H s ks d ∧ n ≤ (placesOf ks d).length ∧ match ws[i]? with
  | none => BadAt K H E i
  | some x => if (((placesOf ks d).drop n).any fun p => decide (p.1 = x)) = true then
      match ws[i + 1]? with
      | none => BadAt K H E (i + 1)
      | some y => if isP ((placesOf ks d).drop n) x y = true then ∀ H' t c b e, Same H H' → H' t = some (.tup [.ref c, .ref b]) → (x, e) ∈ (placesOf ks d).drop n → y = intS (e : Int) → H' c = some (.tup (plV (x, e))) → WdsAt K H' b ws (i + 2) → Q (.ref t) H' else BadAt K H E (i + 1)
    else BadAt K H E i
/-- take_weight(words) -/
def spTakeWeight (K : PySem.W.Frag) : Sp := fun vs H Q E => ∃ a ws i, vs = [.ref a] ∧ WdsAt K H a ws i ∧ match ws[i]? with
  | some x => if isW x = true then ∀ H' t b, Same H H' → H' t = some (.tup [.int (wholeNum x), .ref b]) → WdsAt K H' b ws (i + 1) → Q (.ref t) H' else BadAt K H E i
  | none => BadAt K H E i
section
variable {P : Program} {w : World} {K : PySem.W.Frag} {mg : Str → Option Value} {base : Heap} {fd : FuncData}
theorem ok_take_weight (T : Top w K mg) (M_Words_peek : MethX CX0 P w K mg base (cW K) "peek" 1 ["self"] (spPeek K)) (M_Words_refuse : MethX (L2.CX P w) P w K mg base (cW K) "refuse" 3 ["self"] (spRefuse K)) (M_Words_take_whole : MethX (L2.CX P w) P w K mg base (cW K) "take_whole" 5 ["self"] (spTakeWhole K)) (F : Fn K "take_weight" s_take_weight fd) : FnOk P w K mg base (L2.CX P w) 6 (He.ga K "take_weight") fd ["words"] (spTakeWeight K) := by
  refine F.ok sc_take_weight (fun vs H Q E h => ?_) (fun cdv A outer s H vs Q E hr h => ?_)
  · obtain ⟨a, ws, i, rfl, _⟩ := h
    rfl
  · obtain ⟨a, ws, i, rfl, wd, k⟩ := h
    have hu := hr.units
    refine ⟨_, (pss_cons (ps_if (pt_cmpR (op_sameK (K := K) rfl hu) (pe_mX0 M_Words_peek T.k_Words (hr.mono (by decide)) pass_CX0 (pv 0)) pe_str (nomark _)) (pss_one (ps_expr (pe_mX0 M_Words_refuse T.k_Words (hr.mono (by decide)) (passes_call (takes_of rfl rfl rfl rfl) (fun _ _ _ _ h => h)) (pv 0)))) pss_nil)
      (pss_one (ps_ret (pe_mX0 M_Words_take_whole T.k_Words (hr.mono (by decide)) (passes_call (takes_of rfl rfl rfl rfl) (fun _ _ _ _ h => h)) (pv 0))))), ?_⟩
    obtain ⟨dx, q, e1, e2⟩ := wd.ex
    with_reducible refine seqU ?_
    with_reducible refine ifU ?_
    with_reducible refine testU ?_
    with_reducible refine opU ?_
    refine ⟨_, rfl, a, dx, wf q i, rfl, e1, rfl, a, ws, i, rfl, wd, ?_⟩
    cases e : ws[i]? with
    | none =>
      rw [e] at k
      have ea : wAt ws i = .non := by unfold wAt; rw [e]
      rw [ea]
      refine .inl ⟨rfl, _, rfl, ?_⟩
      refine ite2 (fun c => absurd c (by decide)) (fun _ => ?_)
      exact ⟨_, rfl, a, dx, wf q i, rfl, e1, rfl, a, ws, i, rfl, wd, by rw [e]; exact k⟩
    | some x =>
      rw [e] at k
      have ea : wAt ws i = .str x := by unfold wAt; rw [e]
      rw [ea]
      have k' : if isW x = true then ∀ H' t b, Same H H' → H' t = some (.tup [.int (wholeNum x), .ref b]) → WdsAt K H' b ws (i + 1) → Q (.ref t) H' else BadAt K H E i := k
      refine .inl ⟨rfl, _, rfl, ?_⟩
      refine ite2 (fun c => ?_) (fun c => ?_)
      · have ex : x = "0" := V.str.inj (of_decide_eq_true c)
        rw [if_neg (by rw [ex]; decide +kernel)] at k'
        exact ⟨_, rfl, a, dx, wf q i, rfl, e1, rfl, a, ws, i, rfl, wd, k'⟩
      · have nx : ¬ x = "0" := fun z => c (decide_eq_true (by rw [z]))
        refine ⟨_, rfl, a, dx, wf q i, rfl, e1, rfl, a, ws, i, rfl, wd, ?_⟩
        rw [e]
        have ew : isW x = wholeText x := by unfold isW; rw [decide_eq_false nx]; exact Bool.and_true _
        rw [ew] at k'
        exact k'
theorem ok_take_place (T : Top w K mg) (M_Words_take_one : MethX (L2.CX P w) P w K mg base (cW K) "take_one" 6 ["self", "choices"] (spTakeOne K)) {f : Addr} (F : FunD K "take_place" "take_place" (defArgs s_take_place) (defBody s_take_place) (defScope s_take_place) [.int (-1)] [] f fd) : FnOk P w K mg base (L2.CX P w) 7 f fd ["words", "shape", "after"] (spTakePlace K) := by
  refine F.ok sc_take_place (fun vs H Q E h => ?_) (fun cdv A outer s H vs Q E hr h => ?_)
  · obtain ⟨a, s, n, ws, i, ks, d, rfl, _⟩ := h
    rfl
  · obtain ⟨a, sa, n, ws, i, ks, d, rfl, wd, s0, ln, k⟩ := h
    have hu := hr.units
    refine ⟨_, (pss_cons (ps_set (i := 3) sc_take_place.nd rfl (by first | exact Or.inl rfl | exact Or.inr rfl) (pe_slice sl_tupA (pe_fldK (K := K) rfl (pv 1) rfl) (po_some (pe_op op_plus (pv 2) pe_int)) po_none))
      (pss_cons (ps_asg (pe_mX M_Words_take_one T.k_Words (hr.mono (by decide)) (passes_call (takes_of rfl rfl rfl rfl) (fun _ _ _ _ h => h)) (pv 0) (pa_cons (pe_lc (own := [("place", 6)]) (g := gName 6) (tt := tYes) (by rfl) sc_take_place.nd (pi_sqK (K := K) rfl (pv 3)) (blkOk_by (own := [("place", 6)]) (N := ["words", "shape", "after", "places", "key", "day", "place"]) (sc := defScope s_take_place) (by decide +kernel)) (fun _ _ _ _ _ => by exact (pg_name (i := 6) sc_take_place.nd rfl (by first | exact Or.inl rfl | exact Or.inr rfl))) (fun _ _ _ _ _ => by exact pts_nil) (fun _ _ _ _ _ => by exact (pe_ix (ix_seqK (K := K) rfl) (pv 6) pe_int (fun _ _ => rfl)))) pa_nil)) (pg_tup rfl (pgs_cons (pg_name (i := 4) sc_take_place.nd rfl (by first | exact Or.inl rfl | exact Or.inr rfl)) (pgs_cons (pg_name (i := 0) sc_take_place.nd rfl (by first | exact Or.inl rfl | exact Or.inr rfl)) pgs_nil))))
      (pss_cons (ps_asg (pe_mX M_Words_take_one T.k_Words (hr.mono (by decide)) (passes_call (takes_of rfl rfl rfl rfl) (fun _ _ _ _ h => h)) (pv 0) (pa_cons (pe_lc (own := [("place", 6)]) (g := gName 6) (by rfl) sc_take_place.nd (pi_sqK (K := K) rfl (pv 3)) (blkOk_by (own := [("place", 6)]) (N := ["words", "shape", "after", "places", "key", "day", "place"]) (sc := defScope s_take_place) (by decide +kernel)) (fun _ _ _ _ _ => by exact (pg_name (i := 6) sc_take_place.nd rfl (by first | exact Or.inl rfl | exact Or.inr rfl))) (fun _ _ _ _ _ => by exact (pts_one (pt_cmpR (op_sameK (K := K) rfl hu) (pe_ix (ix_seqK (K := K) rfl) (pv 6) pe_int (fun _ _ => rfl)) (pv 4) (nomark _)))) (fun _ _ _ _ _ => by exact (pe_callTy call_str_int rfl T.n_str (by decide +kernel) (pa_cons (pe_ix (ix_seqK (K := K) rfl) (pv 6) pe_int (fun _ _ => rfl)) pa_nil)))) pa_nil)) (pg_tup rfl (pgs_cons (pg_name (i := 5) sc_take_place.nd rfl (by first | exact Or.inl rfl | exact Or.inr rfl)) (pgs_cons (pg_name (i := 0) sc_take_place.nd rfl (by first | exact Or.inl rfl | exact Or.inr rfl)) pgs_nil))))
      (pss_one (ps_ret (pe_tup (pa_cons (pe_tup (pa_cons (pv 4) (pa_cons (pe_callTy call_int_str rfl T.n_int (by decide +kernel) (pa_cons (pv 5) pa_nil)) pa_nil))) (pa_cons (pv 0) pa_nil)))))))), ?_⟩
    obtain ⟨dxs, t1, t2, t3, bs, c⟩ := s0.core
    have kd := c.keyed
    have lb : bs.length = (placesOf ks d).length := by rw [kd.1, List.length_map]
    have l36 : (placesOf ks d).length ≤ 36 := by rw [length_places]; exact s0.ok.few
    with_reducible refine seqU ?_
    with_reducible refine setU ?_
    have e1 : ((n : Int) - 1 + 1) = (n : Int) := by omega
    refine ⟨_, rfl, sa, _, dxs, _, _, rfl, c.obj, T.k_Shape, T.a_Shape_places, rfl, _, rfl, ?_⟩
    refine .inl ⟨(n : Int) - 1, 1, rfl, rfl, _, rfl, ?_⟩
    rw [e1]
    have lm : (bs.map V.ref).length = (placesOf ks d).length := by rw [List.length_map, lb]
    have i0 : HT.sIx (bs.map V.ref).length 0 (some (n : Int)) = n := by rw [HT.sIx_nat, lm]; exact Nat.min_eq_left ln
    suffices one : ∀ (H1 : Hp) (p : Addr), Same H H1 → Sq K H1 p ((bs.drop n).map V.ref) → tSeq _ _ _ [some (.ref a), some (.ref sa), some (.int ((n : Int) - 1)), some (.ref p), none, none, none] H1 by
      refine ⟨t2, bs.map V.ref, rfl, .inl c.places, fun z => ?_, fun _ p np => ?_⟩
      · have n0 : n = 0 := i0.symm.trans z.1
        exact one H t2 (fun _ _ z => z) (by rw [n0]; exact .inl (.inl c.places))
      · refine one _ p (same_new np) (.inl (SqT.of ?_))
        have ec : cutV (bs.map V.ref) (some (n : Int)) none = (bs.drop n).map V.ref := by
          unfold cutV
          rw [i0, HT.sIx_none, List.map_drop]
          exact List.take_of_length_le (by rw [List.length_drop]; exact Nat.le_refl _)
        rw [← ec]
        exact upd_same
    intro H1 p s1 sq
    have kd1 : Keyed H1 (bs.drop n) (((placesOf ks d).drop n).map plK) := by
      have k1 := kd.same s1
      refine ⟨by rw [List.length_drop, List.length_map, List.length_drop, lb], fun j b x hb hx => ?_⟩
      rw [List.getElem?_drop] at hb
      rw [List.getElem?_map, List.getElem?_drop] at hx
      exact k1.2 (n + j) b x hb (by rw [List.getElem?_map]; exact hx)
    have wd1 := wd.same s1
    obtain ⟨dx, q, w1, w2⟩ := wd1.ex
    have lp : (bs.drop n).length ≤ sizeLine := by rw [List.length_drop, sizeLine_eq]; omega
    with_reducible refine seqU ?_
    refine ⟨_, rfl, a, dx, wf q i, rfl, w1, rfl, ?_⟩
    have ef : (((((placesOf ks d).drop n).map plK).filter fun _ => true).map firstK) = (((placesOf ks d).drop n).map (·.1)).map V.str := by
      rw [List.filter_eq_self.mpr fun _ _ => rfl, List.map_map, List.map_map]
      rfl
    refine lc_keyed (fun _ => true) firstK sq kd1 lp (fun R r => ⟨_, rfl, r⟩) (fun b k hk hb H2 Q' s2 y => ?_) (fun b k hk hb _ H2 Q' s2 y => ?_) (fun D hD => ?_)
    · exact y
    · obtain ⟨z, hz, rfl⟩ := List.mem_map.mp hk
      exact ⟨_, rfl, ix_sq (xs := [.str z.1, .int z.2]) (i := 0) (v := .str z.1) (.inl (SqT.of (s2 _ _ hb))) rfl y⟩
    rw [ef]
    have s2 := same_new (o := .lst ((((placesOf ks d).drop n).map (·.1)).map V.str)) hD
    have wd2 := wd1.same s2
    have eD : (upd H1 D (.lst ((((placesOf ks d).drop n).map (·.1)).map V.str))) D = some (.lst ((((placesOf ks d).drop n).map (·.1)).map V.str)) := upd_same
    have s02 := s1.trans s2
    generalize upd H1 D (.lst ((((placesOf ks d).drop n).map (·.1)).map V.str)) = H2 at s2 wd2 eD s02 ⊢
    refine ⟨a, ws, i, D, ((placesOf ks d).drop n).map (·.1), rfl, wd2, .inl (SqL.of eD), ?_⟩
    cases e : ws[i]? with
    | none =>
      rw [e] at k
      exact BadAt.same k s02
    | some x =>
      rw [e] at k
      dsimp only at k ⊢
      have ea : ((((placesOf ks d).drop n).map (·.1)).any fun y => y == x) = ((placesOf ks d).drop n).any fun p => decide (p.1 = x) := by
        rw [List.any_map]
        rfl
      rw [ea]
      cases ha : ((placesOf ks d).drop n).any fun p => decide (p.1 = x) with
      | false =>
        rw [ha, if_neg (by decide)] at k
        rw [if_neg (by decide)]
        exact BadAt.same k s02
      | true =>
        rw [ha, if_pos rfl] at k
        rw [if_pos rfl]
        intro H3 t b s3 et wd3
        refine ⟨t, _, rfl, SqT.of et, rfl, _, _, rfl, _, _, rfl, rfl, ?_⟩
        show tSeq _ _ _ [some (.ref b), some (.ref sa), some (.int ((n : Int) - 1)), some (.ref p), some (.str x), none, none] H3
        have s03 := s02.trans s3
        have kd3 := kd1.same (s2.trans s3)
        have sq3 : Sq K H3 p ((bs.drop n).map V.ref) := Sq.keep sq (SqKeep.of_same (s2.trans s3))
        obtain ⟨dx3, q3, w31, w32⟩ := wd3.ex
        with_reducible refine seqU ?_
        refine ⟨_, rfl, b, dx3, wf q3 (i + 1), rfl, w31, rfl, ?_⟩
        have ef3 : (((((placesOf ks d).drop n).map plK).filter fun k => decide (firstK k = .str x)).map secondK) = ((((placesOf ks d).drop n).filter fun z => decide (z.1 = x)).map fun z => intS z.2).map V.str := by
          rw [List.filter_map, List.map_map, List.map_map]
          have e1 : ((fun k => decide (firstK k = V.str x)) ∘ plK) = fun z : Pl => decide (z.1 = x) := by
            funext z
            show decide (V.str z.1 = V.str x) = decide (z.1 = x)
            exact decide_eq_decide.mpr ⟨V.str.inj, fun e => by rw [e]⟩
          rw [e1]
          rfl
        refine lc_keyed (fun k => decide (firstK k = .str x)) secondK sq3 kd3 lp (fun R r => ⟨_, rfl, r⟩) (fun b' k hk hb H4 Q' s4 y => ?_) (fun b' k hk hb hp H4 Q' s4 y => ?_) (fun D hD => ?_)
        · obtain ⟨z, hz, rfl⟩ := List.mem_map.mp hk
          exact ⟨_, rfl, ix_sq (xs := [.str z.1, .int z.2]) (i := 0) (v := .str z.1) (.inl (SqT.of (s4 _ _ hb))) rfl ⟨_, rfl, .inl ⟨rfl, _, rfl, y⟩⟩⟩
        · obtain ⟨z, hz, rfl⟩ := List.mem_map.mp hk
          have d8 : z.2 < 8 := Nat.lt_of_lt_of_le (mem_places.mp (List.mem_of_mem_drop hz)).2 s0.ok.d8
          exact ⟨_, rfl, ix_sq (xs := [.str z.1, .int z.2]) (i := 1) (v := .int z.2) (.inl (SqT.of (s4 _ _ hb))) rfl ⟨_, rfl, log8 d8, y⟩⟩
        rw [ef3]
        have s4 := same_new (o := .lst (((((placesOf ks d).drop n).filter fun z => decide (z.1 = x)).map fun z => intS z.2).map V.str)) hD
        have wd4 := wd3.same s4
        have eD4 : (upd H3 D (.lst (((((placesOf ks d).drop n).filter fun z => decide (z.1 = x)).map fun z => intS z.2).map V.str))) D = some (.lst (((((placesOf ks d).drop n).filter fun z => decide (z.1 = x)).map fun z => intS z.2).map V.str)) := upd_same
        have s04 := s03.trans s4
        generalize upd H3 D (.lst (((((placesOf ks d).drop n).filter fun z => decide (z.1 = x)).map fun z => intS z.2).map V.str)) = H4 at s4 wd4 eD4 s04 ⊢
        refine ⟨b, ws, i + 1, D, (((placesOf ks d).drop n).filter fun z => decide (z.1 = x)).map fun z => intS z.2, rfl, wd4, .inl (SqL.of eD4), ?_⟩
        have eb : ∀ y, (((((placesOf ks d).drop n).filter fun z => decide (z.1 = x)).map fun z => intS z.2).any fun z => z == y) = isP ((placesOf ks d).drop n) x y := fun y => by
          unfold isP
          rw [List.any_map, List.any_filter]
          rfl
        cases ey : ws[i + 1]? with
        | none =>
          rw [ey] at k
          exact BadAt.same k s04
        | some y =>
          rw [ey] at k
          dsimp only at k ⊢
          rw [eb]
          cases hp : isP ((placesOf ks d).drop n) x y with
          | false =>
            rw [hp, if_neg (by decide)] at k
            rw [if_neg (by decide)]
            exact BadAt.same k s04
          | true =>
            rw [hp, if_pos rfl] at k
            rw [if_pos rfl]
            obtain ⟨z, hz, hxy⟩ := List.any_eq_true.mp hp
            obtain ⟨zx, zy⟩ := Bool.and_eq_true_iff.mp hxy
            replace zx : z.1 = x := of_decide_eq_true zx
            replace zy : intS z.2 = y := of_decide_eq_true zy
            have d8 : z.2 < 8 := Nat.lt_of_lt_of_le (mem_places.mp (List.mem_of_mem_drop hz)).2 s0.ok.d8
            intro H5 t5 b5 s5 et5 wd5
            refine ⟨t5, _, rfl, SqT.of et5, rfl, _, _, rfl, _, _, rfl, rfl, ?_⟩
            show tRet _ _ [some (.ref b5), some (.ref sa), some (.int ((n : Int) - 1)), some (.ref p), some (.str x), some (.str y), none] H5
            with_reducible refine retU ?_
            obtain ⟨it, il⟩ := int_text8 d8
            rw [zy] at it il
            refine ⟨_, rfl, _, rfl, y, _, rfl, it, il, (by decide : (2 : Nat) ≤ sizeLine), fun c nc => ⟨_, rfl, (by decide : (2 : Nat) ≤ sizeLine), fun t nt => ?_⟩⟩
            have s6 := same_new (o := .tup [.str x, .int z.2]) nc
            have s7 := same_new (o := .tup [.ref c, .ref b5]) nt
            refine k _ t c b5 z.2 (((s04.trans s5).trans s6).trans s7) upd_same ?_ zy.symm (s7 _ _ upd_same) ((wd5.same s6).same s7)
            rw [← zx]
            exact hz
end
end L2.K19
set_option Elab.async false
set_option linter.all false
set_option maxRecDepth 100000
set_option maxHeartbeats 4000000
/-! The number of a place among those of its shape. -/
namespace L2.K19
open PySem PySem.Spec PyProof.Rows L2.RV
/-- the number of a place -/
def ixP (ks : List Str) (d : Nat) (p : Pl) : Nat := (placesOf ks d).idxOf p
/-- shape.index_of(place), of a place of it -/
def spIndexOf (K : PySem.W.Frag) : Sp := fun vs H Q _ => ∃ a b ks d p, vs = [.ref a, .ref b] ∧ ShapeAt K H a ks d ∧ PlAt H b p ∧ p ∈ placesOf ks d ∧ Q (.int (ixP ks d p)) H
theorem valV_ix {p : Pl} : ∀ (l : List Pl) (n : Nat), p ∈ l → valV ((l.zipIdx n).map fun z => (plK z.1, V.int z.2)) (plK p) = some (V.int ((n + l.idxOf p : Nat) : Int))
  | [], _, h => absurd h List.not_mem_nil
  | z :: l, n, h => by
    rw [List.zipIdx_cons, List.map_cons]
    by_cases e : z = p
    · rw [valV_pos (by rw [e]), e, List.idxOf_cons_self]
      rfl
    · have m : p ∈ l := by
        rcases List.mem_cons.mp h with h | h
        · exact absurd h.symm e
        · exact h
      rw [valV_neg (fun h => e (plK_inj.mp h)), valV_ix l (n + 1) m]
      have ei : (z :: l).idxOf p = l.idxOf p + 1 := by
        rw [List.idxOf_cons, show (z == p) = false from beq_eq_false_iff_ne.mpr e]
        rfl
      rw [ei]
      have : n + 1 + l.idxOf p = n + (l.idxOf p + 1) := by omega
      rw [this]
section
variable {P : Program} {w : World} {K : PySem.W.Frag} {mg : Str → Option Value} {base : Heap} {fd : FuncData}
theorem ok_Shape_index_of (T : Top w K mg) (S_Shape_contains : MethS CX0 P w K mg base (He.ga K "Shape") "__contains__" 3 ["self", "x"] (spShapeIn K)) (R_BadPlace : RzX P w K mg base "BadPlace" (ca K 7) ["value"]) {f : Addr} (F : FunD K "index_of" "Shape.index_of" (defArgs s_Shape_index_of) (defBody s_Shape_index_of) (defScope s_Shape_index_of) [] [] f fd) : FnOk P w K mg base (L2.CX P w) 4 f fd ["self", "place"] (spIndexOf K) := by
  refine F.ok sc_Shape_index_of (fun vs H Q E h => ?_) (fun cdv A outer s H vs Q E hr h => ?_)
  · obtain ⟨a, b, ks, d, p, rfl, _⟩ := h
    rfl
  · obtain ⟨a, b, ks, d, p, rfl, s1, pb, hp, k⟩ := h
    have hu := hr.units
    refine ⟨_, (pss_cons (ps_if (pt_cmpR (op_notInO S_Shape_contains (hr.mono (by decide)) pass_CX0) (pv 1) (pv 0) rfl) (pss_one (ps_rz R_BadPlace rfl (hr.mono (by decide)) (takes_of rfl rfl rfl rfl) rfl (pa_cons (pv 1) pa_nil))) pss_nil)
      (pss_one (ps_ret (pe_dget (Nat.lt_of_le_of_lt (Nat.add_le_add_left (by decide) _) hu) (pe_fldK (K := K) rfl (pv 0) rfl) (pv 1) (fun _ _ => rfl))))), ?_⟩
    obtain ⟨dx, t1, t2, t3, bs, c⟩ := s1.core
    refine ⟨_, rfl, _, rfl, a, dx, _, rfl, c.obj, a, b, ks, d, p, rfl, s1, pb, _, rfl, _, rfl, ?_⟩
    rw [decide_eq_true hp]
    refine ⟨_, rfl, a, _, dx, _, _, rfl, c.obj, T.k_Shape, T.a_Shape_indexes, rfl, ?_⟩
    have v := valV_ix (placesOf ks d) 0 hp
    rw [Nat.zero_add] at v
    exact ⟨_, rfl, t3, _, rfl, .inr ⟨_, plK p, b, c.index, rfl, pb, v.symm⟩, k⟩
end
end L2.K19
set_option Elab.async false
set_option linter.all false
set_option maxRecDepth 100000
set_option maxHeartbeats 4000000
/-! The rows of a text: the first word that cannot stand, or the weights. -/
namespace L2.K19
open PySem PySem.Spec PyProof.Rows L2.RV
/-- a row that begins with the word i: the word that cannot stand, or a place from n on and its weight -/
def rowAt (pl : List Pl) (ws : List Str) (i n : Nat) : Nat ⊕ (Pl × Int) := match ws[i]? with
  | none => .inl i
  | some x => if isW x = true then
      match ws[i + 1]? with
      | none => .inl (i + 1)
      | some y => if ((pl.drop n).any fun p => decide (p.1 = y)) = true then
          match ws[i + 2]? with
          | none => .inl (i + 2)
          | some z => if isP (pl.drop n) y z = true then .inr ((y, (wholeNum z).toNat), wholeNum x) else .inl (i + 2)
        else .inl (i + 1)
    else .inl i
/-- rows from the word i on, of places from n on, behind the rows rs -/
def scanR (pl : List Pl) (ws : List Str) : Nat → Nat → Nat → List (Pl × Int) → Nat ⊕ (List (Pl × Int) × Nat)
  | 0, i, _, _ => .inl i
  | m + 1, i, n, rs => match rowAt pl ws i n with
    | .inl e => .inl e
    | .inr z => if ws[i + 3]? = some ("," : Str) then scanR pl ws m (i + 4) (pl.idxOf z.1 + 1) (rs ++ [z]) else .inr (rs ++ [z], i + 3)
theorem isP_iff {ps : List Pl} {x y : Str} : isP ps x y = true ↔ ∃ e, (x, e) ∈ ps ∧ y = intS (e : Int) := by
  unfold isP
  rw [List.any_eq_true]
  constructor
  · rintro ⟨z, hz, h⟩
    obtain ⟨a, b⟩ := Bool.and_eq_true_iff.mp h
    have a' : z.1 = x := of_decide_eq_true a
    have b' : intS z.2 = y := of_decide_eq_true b
    exact ⟨z.2, by rw [← a']; exact hz, b'.symm⟩
  · rintro ⟨e, he, rfl⟩
    exact ⟨(x, e), he, Bool.and_eq_true_iff.mpr ⟨decide_eq_true rfl, decide_eq_true rfl⟩⟩
theorem day_back (e : Nat) : (wholeNum (intS (e : Int))).toNat = e := by
  rw [(int_whole _).2]
  exact Int.toNat_natCast e
theorem rowAt_mem {pl : List Pl} {ws : List Str} {i n : Nat} {z : Pl × Int} (h : rowAt pl ws i n = .inr z) : z.1 ∈ pl.drop n := by
  unfold rowAt at h
  split at h
  · cases h
  · split at h
    · split at h
      · cases h
      · split at h
        · split at h
          · cases h
          · split at h
            · rename_i hp
              obtain ⟨e, he, rfl⟩ := isP_iff.mp hp
              rw [day_back] at h
              cases h
              exact he
            · cases h
        · cases h
    · cases h
/-- a place from n on has a number from n on -/
theorem idx_from {pl : List Pl} (nd : pl.Nodup) {n : Nat} {p : Pl} (h : p ∈ pl.drop n) : n ≤ pl.idxOf p := by
  refine Nat.le_of_not_lt fun lt => ?_
  have m1 : p ∈ pl.take n := by
    have hp : p ∈ pl := List.mem_of_mem_drop h
    have l := List.idxOf_lt_length_of_mem hp
    have e := List.getElem_idxOf l
    rw [← e]
    exact List.mem_take_iff_getElem.mpr ⟨pl.idxOf p, by omega, rfl⟩
  have := List.nodup_append.mp (by rw [List.take_append_drop n pl]; exact nd)
  exact this.2.2 p m1 p h rfl
/-- take_weight at the word i, towards a row -/
theorem row_weight {K : PySem.W.Frag} {H : Hp} {a : Addr} {ws : List Str} {i n : Nat} {pl : List Pl} {Q : VK} {E : XK} (wd : WdsAt K H a ws i) (bad : ∀ e, rowAt pl ws i n = .inl e → BadAt K H E e)
    (k : ∀ x, ws[i]? = some x → isW x = true → ∀ H' t b, Same H H' → H' t = some (.tup [.int (wholeNum x), .ref b]) → WdsAt K H' b ws (i + 1) → Q (.ref t) H') : spTakeWeight K [.ref a] H Q E := by
  refine ⟨a, ws, i, rfl, wd, ?_⟩
  cases e : ws[i]? with
  | none => exact bad i (by unfold rowAt; rw [e])
  | some x =>
    cases hx : isW x with
    | false => exact (if_neg (by rw [hx]; decide)).mpr (bad i (by unfold rowAt; rw [e]; exact if_neg (by rw [hx]; decide)))
    | true => exact (if_pos hx).mpr fun H' t b s et wd' => k x e hx H' t b s et wd'
/-- take_place at the word i + 1, the row's weight being read -/
theorem row_place {K : PySem.W.Frag} {H : Hp} {b s : Addr} {ws : List Str} {i n : Nat} {ks : List Str} {d : Nat} {Q : VK} {E : XK} {x : Str} (wd : WdsAt K H b ws (i + 1)) (s0 : ShapeAt K H s ks d) (ln : n ≤ (placesOf ks d).length) (ex : ws[i]? = some x) (hx : isW x = true)
    (bad : ∀ e, rowAt (placesOf ks d) ws i n = .inl e → BadAt K H E e)
    (k : ∀ p, rowAt (placesOf ks d) ws i n = .inr (p, wholeNum x) → p ∈ (placesOf ks d).drop n → ∀ H' t c b', Same H H' → H' t = some (.tup [.ref c, .ref b']) → H' c = some (.tup (plV p)) → WdsAt K H' b' ws (i + 3) → Q (.ref t) H') : spTakePlace K [.ref b, .ref s, .int ((n : Int) - 1)] H Q E := by
  refine ⟨b, s, n, ws, i + 1, ks, d, rfl, wd, s0, ln, ?_⟩
  have r0 : rowAt (placesOf ks d) ws i n = match ws[i + 1]? with
      | none => .inl (i + 1)
      | some y => if (((placesOf ks d).drop n).any fun p => decide (p.1 = y)) = true then
          match ws[i + 2]? with
          | none => .inl (i + 2)
          | some z => if isP ((placesOf ks d).drop n) y z = true then .inr ((y, (wholeNum z).toNat), wholeNum x) else .inl (i + 2)
        else .inl (i + 1) := by
    unfold rowAt
    rw [ex]
    exact if_pos hx
  cases e : ws[i + 1]? with
  | none => exact bad _ (by rw [r0, e])
  | some y =>
    rw [e] at r0
    dsimp only at r0 ⊢
    cases hy : ((placesOf ks d).drop n).any fun p => decide (p.1 = y) with
    | false => exact (if_neg (by decide)).mpr (bad _ (by rw [r0, hy]; exact if_neg (by decide)))
    | true =>
      rw [hy, if_pos rfl] at r0
      rw [if_pos rfl]
      cases e2 : ws[i + 2]? with
      | none =>
        rw [e2] at r0
        exact bad _ r0
      | some z =>
        rw [e2] at r0
        dsimp only at r0 ⊢
        cases hz : isP ((placesOf ks d).drop n) y z with
        | false =>
          rw [hz, if_neg (by decide)] at r0
          exact (if_neg (by decide)).mpr (bad _ r0)
        | true =>
          rw [hz, if_pos rfl] at r0
          refine (if_pos rfl).mpr fun H' t c b' day s et mem ey ec wd' => ?_
          subst ey
          rw [day_back] at r0
          exact k _ r0 mem H' t c b' s et ec wd'
end L2.K19
set_option Elab.async false
set_option linter.all false
set_option maxRecDepth 100000
set_option maxHeartbeats 4000000
/-! What the law draws. -/
namespace L2.K19
open PySem PySem.Spec PyProof.Rows L2.RV
theorem PenAt.keep {H H' : Hp} {q p l : Addr} {ns : List Int} {a r : Int} (x : PenAt H p l ns a r) (k : Keep q H H') (np : p ≠ q) (nl : l ≠ q) : PenAt H' p l ns a r := ⟨k _ _ np x.pen, k _ _ nl x.nums, x.ne, x.few, x.from0, x.rest0⟩
theorem areKeys_snoc {xs ys : List Str} {k : Str} (h : areKeys xs = true) (p : ys.Perm xs) (l : xs.length ≤ 3) (n : k ∉ xs) (g : isName k = true := by decide +kernel) : areKeys (ys ++ [k]) = true := by
  obtain ⟨_, _, names, nd⟩ := areKeys_ok h
  have nd2 : (ys ++ [k]).Nodup := by
    rw [List.nodup_append]
    refine ⟨p.nodup_iff.mpr nd, List.nodup_cons.mpr ⟨List.not_mem_nil, .nil⟩, fun a ha b hb => ?_⟩
    rw [List.mem_singleton.mp hb]
    exact fun z => n (by rw [← z]; exact p.mem_iff.mp ha)
  have len : (ys ++ [k]).length = xs.length + 1 := by rw [List.length_append, p.length_eq]; rfl
  unfold areKeys
  rw [once_nodup _ [] nd2 (fun _ _ => List.not_mem_nil), List.nil_append, len]
  simp only [Bool.and_eq_true, decide_eq_true_eq, List.all_eq_true]
  refine ⟨by push_cast; omega, by push_cast; omega, fun x hx => ?_, trivial⟩
  rcases List.mem_append.mp hx with h | h
  · exact names x (p.mem_iff.mp h)
  · rw [List.mem_singleton.mp h]; exact g
/-- texts that make a shape, in a list or a tuple at v -/
def KeysAt (K : PySem.W.Frag) (H : Hp) (v : V) : Prop := ∃ a xs, v = .ref a ∧ (Rd H a (.lst (xs.map V.str)) ∨ Rd H a (.tup (xs.map V.str))) ∧ areKeys xs = true ∧ xs.length ≤ 3 ∧ (∀ x ∈ xs, x.length ≤ 10) ∧ ("new" : Str) ∉ xs
theorem KeysAt.same {K : PySem.W.Frag} {H H' : Hp} {v : V} (k : KeysAt K H v) (s : ∀ a o, v = .ref a → H a = some o → H' a = some o) : KeysAt K H' v := by
  obtain ⟨a, xs, rfl, q, r⟩ := k
  exact ⟨a, xs, rfl, q.imp (fun z => Rd.keep z fun o => s a o rfl) (fun z => Rd.keep z fun o => s a o rfl), r⟩
/-- _law_shape(pen) -/
def spLShape (K : PySem.W.Frag) : Sp := fun vs H Q _ => ∃ (p l : Addr) (ns : List Int) (a r : Int), vs = [.ref p] ∧ PenAt H p l ns a r ∧ a ≤ 90000 ∧
  ∀ H' a' r' s ks d, Keep p H H' → PenAt H' p l ns a' r' → a' ≤ a + 2 → ShapeAt K H' s ks d → ks.length ≤ 3 → d ≤ 3 → areKeys (ks ++ [("new" : Str)]) = true → Q (.ref s) H'
section
variable {P : Program} {w : World} {K : PySem.W.Frag} {mg : Str → Option Value} {base : Heap} {fd : FuncData}
theorem ok_law_shape (T : Top w K mg) (D_law_draw : Def P w K mg base "_law_draw" 1 ["_law_pen_here", "_law_many"] spDraw) (D_law_pick : Def P w K mg base "_law_pick" 2 ["_law_pen_here", "_law_some_here"] spPick) (C_Shape : MakeX (L2.CX P w) P w K mg base "Shape" (He.ga K "Shape") 3 ["self", "keys", "days"] [] (spShapeInit K)) (F : Fn K "_law_shape" s_law_shape fd) : FnOk P w K mg base CX0 5 (He.ga K "_law_shape") fd ["_law_pen_here"] (spLShape K) := by
  refine F.ok sc_law_shape (fun vs H Q E h => ?_) (fun cdv A outer s H vs Q E hr h => ?_)
  · obtain ⟨p, l, ns, a, r, rfl, _⟩ := h
    rfl
  · obtain ⟨p, l, ns, a, r, rfl, pen, ha, k⟩ := h
    refine ⟨_, PSs.nox (pss_one (ps_ret (pe_mkX C_Shape (hr.mono (by decide)) rfl pass_E0 (pa_cons (pe_callD D_law_pick (hr.mono (by decide)) rfl (pa_cons (pv 0) (pa_cons (pe_lstN (pa_cons (pe_lstN (pa_cons pe_str pa_nil)) (pa_cons (pe_lstN (pa_cons pe_str (pa_cons pe_str pa_nil))) (pa_cons (pe_lstN (pa_cons pe_str (pa_cons pe_str pa_nil))) (pa_cons (pe_lstN (pa_cons pe_str (pa_cons pe_str (pa_cons pe_str pa_nil)))) (pa_cons (pe_tup (pa_cons pe_str (pa_cons pe_str pa_nil))) pa_nil)))))) pa_nil))) (pa_cons (pe_op op_plus pe_int (pe_callD D_law_draw (hr.mono (by decide)) rfl (pa_cons (pv 0) (pa_cons pe_int pa_nil)))) pa_nil))))), ?_⟩
    refine ⟨_, rfl, by show 1 ≤ sizeLine; decide, fun q1 h1 _ => ?_⟩
    refine ⟨by show 2 ≤ sizeLine; decide, fun q2 h2 _ => ?_⟩
    refine ⟨by show 2 ≤ sizeLine; decide, fun q3 h3 _ => ?_⟩
    refine ⟨by show 3 ≤ sizeLine; decide, fun q4 h4 _ => ?_⟩
    refine ⟨by show 2 ≤ sizeLine; decide, fun q5 h5 => ?_⟩
    refine ⟨by show 5 ≤ sizeLine; decide, fun q6 h6 _ => ?_⟩
    have s1 := same_new (o := .lst [.str "a"]) h1
    have s2 := same_new (o := .lst [.str "b", .str "a"]) h2
    have s3 := same_new (o := .lst [.str "a", .str "zz"]) h3
    have s4 := same_new (o := .lst [.str "k", .str "a", .str "m"]) h4
    have s5 := same_new (o := .tup [.str "b", .str "a"]) h5
    have s6 := same_new (o := .lst [.ref q1, .ref q2, .ref q3, .ref q4, .ref q5]) h6
    have all : ∀ v ∈ [V.ref q1, V.ref q2, V.ref q3, V.ref q4, V.ref q5], KeysAt K (upd (upd (upd (upd (upd (upd H q1 (.lst [.str "a"])) q2 (.lst [.str "b", .str "a"])) q3 (.lst [.str "a", .str "zz"])) q4 (.lst [.str "k", .str "a", .str "m"])) q5 (.tup [.str "b", .str "a"])) q6 (.lst [.ref q1, .ref q2, .ref q3, .ref q4, .ref q5])) v := by
      intro v hv
      simp only [List.mem_cons, List.not_mem_nil, or_false] at hv
      rcases hv with rfl | rfl | rfl | rfl | rfl
      · exact ⟨q1, ["a"], rfl, .inl (.inl (s6 _ _ (s5 _ _ (s4 _ _ (s3 _ _ (s2 _ _ upd_same)))))), by decide +kernel, by decide, by decide, by decide⟩
      · exact ⟨q2, ["b", "a"], rfl, .inl (.inl (s6 _ _ (s5 _ _ (s4 _ _ (s3 _ _ upd_same))))), by decide +kernel, by decide, by decide, by decide⟩
      · exact ⟨q3, ["a", "zz"], rfl, .inl (.inl (s6 _ _ (s5 _ _ (s4 _ _ upd_same)))), by decide +kernel, by decide, by decide, by decide⟩
      · exact ⟨q4, ["k", "a", "m"], rfl, .inl (.inl (s6 _ _ (s5 _ _ upd_same))), by decide +kernel, by decide, by decide, by decide⟩
      · exact ⟨q5, ["b", "a"], rfl, .inr (.inl (s6 _ _ upd_same)), by decide +kernel, by decide, by decide, by decide⟩
    have ap : ∀ v ∈ [V.ref q1, V.ref q2, V.ref q3, V.ref q4, V.ref q5], v ≠ V.ref p := by
      have np : ∀ {q : Addr} {H1 : Hp}, Same H H1 → H1 q = none → V.ref q ≠ V.ref p := fun {q H1} s hq z => by
        injection z with z
        rw [z, s _ _ pen.pen] at hq
        cases hq
      intro v hv
      simp only [List.mem_cons, List.not_mem_nil, or_false] at hv
      rcases hv with rfl | rfl | rfl | rfl | rfl
      · exact np (fun _ _ z => z) h1
      · exact np s1 h2
      · exact np (s1.trans s2) h3
      · exact np ((s1.trans s2).trans s3) h4
      · exact np (((s1.trans s2).trans s3).trans s4) h5
    have sall := ((((s1.trans s2).trans s3).trans s4).trans s5).trans s6
    have e6 : (upd (upd (upd (upd (upd (upd H q1 (.lst [.str "a"])) q2 (.lst [.str "b", .str "a"])) q3 (.lst [.str "a", .str "zz"])) q4 (.lst [.str "k", .str "a", .str "m"])) q5 (.tup [.str "b", .str "a"])) q6 (.lst [.ref q1, .ref q2, .ref q3, .ref q4, .ref q5])) q6 = some (.lst [.ref q1, .ref q2, .ref q3, .ref q4, .ref q5]) := upd_same
    have n6 : q6 ≠ p := fun z => by rw [z, ((((s1.trans s2).trans s3).trans s4).trans s5) _ _ pen.pen] at h6; cases h6
    refine ⟨p, l, q6, ns, a, r, _, rfl, pen.same sall, by omega, e6, n6, (by show 0 < 5; decide), (by show 5 < 1000000; decide), fun H7 a1 r1 v k7 pen7 la hv => ?_⟩
    have kv := (all v hv).same (H' := H7) fun b o e z => k7 b o (fun y => ap v hv (by rw [e, y])) z
    have k07 : Keep p H H7 := (Keep.of sall).trans k7
    clear all ap s1 s2 s3 s4 s5 s6 h1 h2 h3 h4 h5 h6 e6 n6 sall k7
    refine ⟨_, rfl, p, l, ns, a1, r1, 3, rfl, pen7, by omega, by decide, by decide, fun H8 a2 r2 dd k8 pen8 la2 d0 d1 => .inl ⟨_, _, rfl, rfl, ?_⟩⟩
    obtain ⟨ka, xs, rfl, hk, ak, l3, short, nnew⟩ := kv
    have nka : ka ≠ p := fun z => by
      rw [z] at hk
      have e := pen7.pen
      rcases hk with (hk | ⟨od, hk⟩) | (hk | ⟨od, hk⟩)
      · rw [e] at hk
        injection hk with hk
        injection hk with hk
        have := congrArg List.head? hk
        cases xs with
        | nil => cases hk
        | cons y ys => rw [List.map_cons] at hk; injection hk with h1 h2; cases h1
      · rw [e] at hk; cases hk
      · rw [e] at hk; cases hk
      · rw [e] at hk; cases hk
    have hk8 : Sq K H8 ka (xs.map V.str) := by
      rcases hk with hk | hk
      · exact .inr (.inl (Rd.keep hk fun o e => k8 _ _ nka e))
      · exact .inl (.inl (Rd.keep hk fun o e => k8 _ _ nka e))
    intro x dx nx ndx nd
    have sm := made_mid (o := .ins (He.ga K "Shape") dx []) nx ndx
    obtain ⟨m, rfl⟩ : ∃ m : Nat, dd = (m : Int) := ⟨dd.toNat, (Int.toNat_of_nonneg d0).symm⟩
    obtain ⟨k1, k6, names, ndk⟩ := areKeys_ok ak
    have few : xs.length * (1 + m) ≤ 3 * 3 := Nat.mul_le_mul l3 (by omega)
    refine ⟨x, dx, ka, xs, 1 + m, by push_cast; rfl, upd_same, (upd_ne nd).trans upd_same, hk8.keep (SqKeep.of_same sm), ak, fun y hy => by rw [sizeLine_eq]; have := short y hy; omega, by omega, by omega, by omega, fun H9 ys k9 perm _ sh => ⟨rfl, ?_⟩⟩
    have s89 := made_same nx ndx k9
    exact k H9 a2 r2 x ys (1 + m) ((k07.trans k8).trans (Keep.of s89)) (pen8.same s89) (by omega) sh (by rw [perm.length_eq]; exact l3) (by omega) (areKeys_snoc ak perm l3 nnew)
end
end L2.K19
set_option Elab.async false
set_option linter.all false
set_option maxRecDepth 100000
set_option maxHeartbeats 4000000
/-! Weights that the law draws, and its own sums. -/
namespace L2.K19
open PySem PySem.Spec PyProof.Rows L2.RV
/-- weights by places of a shape, in its order -/
structure Wts (ks : List Str) (d : Nat) (ws : List (Pl × Int)) : Prop where
  sub : (ws.map (·.1)).Sublist (placesOf ks d)
  bits : Bits ws
theorem Wts.nd {ks : List Str} {d : Nat} {ws : List (Pl × Int)} (w : Wts ks d ws) (ok : ShOk ks d) : (ws.map (·.1)).Nodup := (nodup_places d ok.nd).sublist w.sub
theorem Wts.mem {ks : List Str} {d : Nat} {ws : List (Pl × Int)} (w : Wts ks d ws) : ∀ z ∈ ws, z.1 ∈ placesOf ks d := fun z hz => w.sub.subset (List.mem_map.mpr ⟨z, hz, rfl⟩)
theorem Wts.few {ks : List Str} {d : Nat} {ws : List (Pl × Int)} (w : Wts ks d ws) (ok : ShOk ks d) : ws.length ≤ 36 := by
  have z := w.sub.length_le
  rw [List.length_map, length_places] at z
  have := ok.few
  omega
theorem valV_out {ws : List (Pl × Int)} {p : Pl} (h : p ∉ ws.map (·.1)) : valV (plD ws) (plK p) = none := by
  cases c : valV (plD ws) (plK p) with
  | none => rfl
  | some v =>
    unfold valV at c
    obtain ⟨pr, hf, _⟩ := Option.map_eq_some_iff.mp c
    have h1 := List.mem_of_find?_eq_some hf
    have h2 := List.find?_some hf
    unfold plD at h1
    obtain ⟨z, hz, rfl⟩ := List.mem_map.mp h1
    have h3 : plK z.1 = plK p := by simpa using h2
    exact absurd (List.mem_map.mpr ⟨z, hz, plK_inj.mp h3⟩) h
theorem putK_out {ws : List (Pl × Int)} {p : Pl} {n : Int} (h : p ∉ ws.map (·.1)) : putK (plD ws) (plK p) (V.int n) = plD (ws ++ [(p, n)]) := by
  rw [putK_new _ (valV_out h)]
  unfold plD
  rw [List.map_append]
  rfl
theorem at_mem {ws : List (Pl × Int)} (nd : (ws.map (·.1)).Nodup) : ∀ z ∈ ws, atD ws z.1 = z.2 := by
  induction ws with
  | nil => exact fun z h => absurd h List.not_mem_nil
  | cons y r ih =>
    intro z hz
    rw [List.map_cons, List.nodup_cons] at nd
    unfold atD
    rcases List.mem_cons.mp hz with rfl | h
    · rw [List.find?_cons_of_pos (by simp)]
      rfl
    · have n : y.1 ≠ z.1 := fun e => nd.1 (by rw [e]; exact List.mem_map.mpr ⟨z, h, rfl⟩)
      rw [List.find?_cons_of_neg (by simpa using n)]
      exact ih nd.2 z h
/-- those that are not nought, in their own order -/
def bareL (ws : List (Pl × Int)) : List (Pl × Int) := ws.filter fun z => !decide (V.int z.2 = V.int 0)
def sumL (ks : List Str) (d : Nat) (ws am : List (Pl × Int)) : Int := ((placesOf ks d).map fun p => atD ws p * atD am p).sum
/-- _law_weights(pen, shape) -/
def spLWeights (K : PySem.W.Frag) : Sp := fun vs H Q _ => ∃ (p l : Addr) (ns : List Int) (a r : Int) (s : Addr) (ks : List Str) (d : Nat), vs = [.ref p, .ref s] ∧ PenAt H p l ns a r ∧ a ≤ 90000 ∧ ShapeAt K H s ks d ∧
  ∀ H' a' r' t ws, Keep p H H' → PenAt H' p l ns a' r' → a' ≤ a + 120 → H t = none → H' t = some (.dT (plD ws)) → Wts ks d ws → Q (.ref t) H'
/-- _law_bare(weights) -/
def spBare (K : PySem.W.Frag) : Sp := fun vs H Q _ => ∃ (t : Addr) (ws : List (Pl × Int)), vs = [.ref t] ∧ H t = some (.dT (plD ws)) ∧ (ws.map (·.1)).Nodup ∧ ws.length ≤ 40 ∧ ∀ H' t', Same H H' → H t' = none → H' t' = some (.dT (plD (bareL ws))) → Q (.ref t') H'
/-- _law_sum(shape, weights, amounts) -/
def spLSum (K : PySem.W.Frag) : Sp := fun vs H Q _ => ∃ (s t u : Addr) (ks : List Str) (d : Nat) (ws am : List (Pl × Int)), vs = [.ref s, .ref t, .ref u] ∧ ShapeAt K H s ks d ∧ H t = some (.dT (plD ws)) ∧ H u = some (.dT (plD am)) ∧ Bits ws ∧ Bits am ∧ ∀ H', Same H H' → Q (.int (sumL ks d ws am)) H'
/-- _law_some(pen, shape) -/
def spLSome (K : PySem.W.Frag) : Sp := fun vs H Q _ => ∃ (p l : Addr) (ns : List Int) (a r : Int) (s : Addr) (ks : List Str) (d : Nat), vs = [.ref p, .ref s] ∧ PenAt H p l ns a r ∧ a ≤ 90000 ∧ ShapeAt K H s ks d ∧
  ∀ H' a' r' t cs, ∀ ps : List Pl, Keep p H H' → PenAt H' p l ns a' r' → a' ≤ a + 40 → H t = none → H' t = some (.lst (cs.map V.ref)) → Keyed H' cs (ps.map plK) → ps.Sublist (placesOf ks d) → Q (.ref t) H'
section
variable {P : Program} {w : World} {K : PySem.W.Frag} {mg : Str → Option Value} {base : Heap} {fd : FuncData}
theorem ok_law_weights (T : Top w K mg) (D_law_draw : Def P w K mg base "_law_draw" 1 ["_law_pen_here", "_law_many"] spDraw) (D_law_pick : Def P w K mg base "_law_pick" 2 ["_law_pen_here", "_law_some_here"] spPick) (F : Fn K "_law_weights" s_law_weights fd) : FnOk P w K mg base CX0 3 (He.ga K "_law_weights") fd ["_law_pen_here", "_law_shape_here"] (spLWeights K) := by
  refine F.ok sc_law_weights (fun vs H Q E h => ?_) (fun cdv A outer s H vs Q E hr h => ?_)
  · obtain ⟨p, l, ns, a, r, sa, ks, d, rfl, _⟩ := h
    rfl
  · obtain ⟨p, l, ns, a, r, sa, ks, d, rfl, pen, ha, s0, k⟩ := h
    have hu := hr.units
    refine ⟨_, PSs.nox (pss_cons (ps_set (i := 2) sc_law_weights.nd rfl (by first | exact Or.inl rfl | exact Or.inr rfl) pe_dnewT)
      (pss_cons (ps_for PassesOwn.never rfl (pi_sqK (K := K) rfl (pe_fldK (K := K) rfl (pv 1) rfl)) (pg_name (i := 3) sc_law_weights.nd rfl (by first | exact Or.inl rfl | exact Or.inr rfl)) (pss_one (ps_if (pt_cmpR op_gt (pe_callD D_law_draw (hr.mono (by decide)) rfl (pa_cons (pv 0) (pa_cons pe_int pa_nil))) pe_int (nomark _)) (pss_one (ps_asg (pe_callD D_law_pick (hr.mono (by decide)) rfl (pa_cons (pv 0) (pa_cons (pe_lstN (pa_cons pe_int (pa_cons pe_int (pa_cons pe_int (pa_cons (pe_un un_neg pe_int) (pa_cons pe_int (pa_cons (pe_un un_neg pe_int) (pa_cons pe_int (pa_cons (pe_op op_pow pe_int pe_int) (pa_cons (pe_op op_sub (pe_callD D_law_draw (hr.mono (by decide)) rfl (pa_cons (pv 0) (pa_cons pe_int pa_nil))) pe_int) pa_nil)))))))))) pa_nil))) (pg_sub (pv 2) (pv 3) (set_dict (Nat.lt_of_le_of_lt (Nat.add_le_add_left (by decide) _) hu))))) pss_nil)))
      (pss_one (ps_ret (pv 2))))), ?_⟩
    intro t ht
    have st := same_new (o := .dT []) ht
    obtain ⟨e1, t1, t2, t3, cs, c⟩ := s0.core
    have n2p : t2 ≠ p := fun z => by
      rcases c.places with h | ⟨od, h⟩
      · rw [z, pen.pen] at h; cases h
      · rw [z, pen.pen] at h; cases h
    have lcs : cs.length ≤ 36 := by rw [c.len, length_places]; exact c.ok.few
    have c1 := c.kp (E := fun _ => False) (.of st) id
    refine ⟨_, rfl, sa, _, e1, _, _, rfl, c1.obj, T.k_Shape, T.a_Shape_places, rfl, t2, _, rfl, .inl (.inl c1.places), fun J wk => ?_⟩
    have lc : (cs.map V.ref).length = (placesOf ks d).length := by rw [List.length_map, c.len]
    have spl : (placesOf ks d).length ≤ 36 := by rw [← c.len]; exact lcs
    refine for_it wk (fun n σ' H' => ∃ a' r' ws cc, σ' = [some (.ref p), some (.ref sa), some (.ref t), cc] ∧ PenAt H' p l ns a' r' ∧ a' ≤ a + 3 * n ∧ H' t = some (.dT (plD ws)) ∧ Keep p H H' ∧ (ws.map (·.1)).Sublist ((placesOf ks d).take n) ∧ Bits ws)
      ⟨a, r, [], _, rfl, pen.same st, by omega, upd_same, Keep.of st, List.nil_sublist _, fun _ h => absurd h List.not_mem_nil⟩ (fun n σ' H' _ q => ?_) (fun n z σ' H1 H2 hn q yy => ?_) (fun σ' H' q => ?_)
    · obtain ⟨_, _, _, _, _, _, _, _, kp, _⟩ := q
      refine .of_eq fun o e => kp _ _ n2p ?_
      have n : t2 ≠ t := fun z => by
        rcases c.places with h | ⟨od, h⟩
        · rw [z, ht] at h; cases h
        · rw [z, ht] at h; cases h
      rw [upd_ne n] at e
      exact e
    · obtain ⟨a1, r1, ws, cc, rfl, pen1, la, et, kp, sub, bits⟩ := q
      obtain ⟨rfl, hz⟩ := yy
      rw [lc] at hn
      rw [List.getElem?_map] at hz
      obtain ⟨b, hb, rfl⟩ := Option.map_eq_some_iff.mp hz
      have hp : (placesOf ks d)[n]? = some (placesOf ks d)[n] := List.getElem?_eq_getElem hn
      have hbk := c.each n _ b hp hb
      have nbp : b ≠ p := fun z => by rw [z, pen.pen] at hbk; cases hbk
      have nbt : b ≠ t := fun z => by rw [z, ht] at hbk; cases hbk
      refine ⟨_, rfl, p, l, ns, a1, r1, 3, rfl, pen1, by omega, by decide, by decide, fun H2 a2 r2 dd k2 pen2 la2 d0 d1 => ⟨_, _, rfl, rfl, _, rfl, ?_⟩⟩
      have ntp : t ≠ p := fun z => by rw [z, pen1.pen] at et; cases et
      have et2 := k2 _ _ ntp et
      refine ite2 (fun _ => ?_) (fun _ => ?_)
      · refine ⟨_, rfl, _, rfl, _, rfl, _, _, rfl, rfl, ⟨by decide, by decide, by decide⟩, _, rfl, p, l, ns, a2, r2, 41, rfl, pen2, by omega, by decide, by decide, fun H3 a3 r3 d3 k3 pen3 la3 d30 d31 => ⟨_, _, rfl, rfl, ?_⟩⟩
        refine ⟨by show 9 ≤ sizeLine; decide, fun L hL _ => ?_⟩
        have s4 := same_new (o := .lst [.int 0, .int 1, .int 1, .int (-1), .int 2, .int (-3), .int 7, .int (10 ^ (30 : Int).toNat), .int (d3 - 20)]) hL
        have nL : L ≠ p := fun z => by rw [z, pen3.pen] at hL; cases hL
        refine ⟨p, l, L, ns, a3, r3, _, rfl, pen3.same s4, by omega, upd_same, nL, (by show 0 < 9; decide), (by show 9 < 1000000; decide), fun H5 a5 r5 v k5 pen5 la5 hv => ?_⟩
        obtain ⟨m, rfl, hm⟩ : ∃ m : Int, v = .int m ∧ m.natAbs < 2 ^ 110 := by
          simp only [List.mem_cons, List.not_mem_nil, or_false] at hv
          rcases hv with rfl | rfl | rfl | rfl | rfl | rfl | rfl | rfl | rfl
          · exact ⟨_, rfl, by decide⟩
          · exact ⟨_, rfl, by decide⟩
          · exact ⟨_, rfl, by decide⟩
          · exact ⟨_, rfl, by decide⟩
          · exact ⟨_, rfl, by decide⟩
          · exact ⟨_, rfl, by decide⟩
          · exact ⟨_, rfl, by decide⟩
          · exact ⟨_, rfl, by decide +kernel⟩
          · refine ⟨_, rfl, ?_⟩
            have : (d3 - 20).natAbs < 64 := by omega
            exact Nat.lt_of_lt_of_le this (by decide)
        have et5 := k5 _ _ ntp (s4 _ _ (k3 _ _ ntp et2))
        have kp5 : Keep p H H5 := (((kp.trans k2).trans k3).trans (Keep.of s4)).trans k5
        have hb5 := kp5 _ _ nbp hbk
        have out : (placesOf ks d)[n] ∉ ws.map (·.1) := fun z => by
          obtain ⟨m', hm'⟩ := List.mem_iff_getElem?.mp (sub.subset z)
          rw [List.getElem?_take] at hm'
          split at hm'
          · rename_i cc'
            obtain ⟨h1, h2⟩ := List.getElem?_eq_some_iff.mp hm'
            exact List.pairwise_iff_getElem.mp (nodup_places d c.ok.nd) m' n h1 hn cc' h2
          · cases hm'
        have lw : ws.length ≤ 36 := by
          have z := sub.length_le
          rw [List.length_map, List.length_take] at z
          omega
        refine ⟨_, rfl, _, rfl, t, _, rfl, DPut.t (k := plK (placesOf ks d)[n]) et5 hb5 (by unfold plD; rw [List.length_map, sizeLine_eq]; omega), ?_⟩
        rw [putK_out out]
        have nlt : l ≠ t := fun z => by
          have := pen5.nums
          rw [z, et5] at this
          cases this
        refine ⟨a5, r5, ws ++ [((placesOf ks d)[n], m)], _, rfl, PenAt.keep pen5 (Keep.upd) (Ne.symm ntp) nlt, by push_cast; omega, upd_same, ?_, ?_, ?_⟩
        · intro b' o' nb e
          have n' : b' ≠ t := fun z => by rw [z, ht] at e; cases e
          exact (upd_ne n').trans (kp5 b' o' nb e)
        · rw [List.map_append, take_snoc hp]
          exact sub.append (List.Sublist.refl _)
        · intro z hz'
          rcases List.mem_append.mp hz' with h | h
          · exact bits z h
          · rw [List.mem_singleton.mp h]; exact hm
      · refine ⟨a2, r2, ws, _, rfl, pen2, by push_cast; omega, et2, kp.trans k2, ?_, bits⟩
        rw [take_snoc hp]
        exact sub.trans (List.sublist_append_left _ _)
    · obtain ⟨a1, r1, ws, cc, rfl, pen1, la, et, kp, sub, bits⟩ := q
      rw [lc, List.take_length] at sub
      rw [lc] at la
      refine ⟨_, rfl, k H' a1 r1 t ws kp pen1 (by omega) ht et ⟨sub, bits⟩⟩
end
end L2.K19
set_option Elab.async false
set_option linter.all false
set_option maxRecDepth 100000
set_option maxHeartbeats 4000000
/-! The weights of a text, taken from its words. -/
namespace L2.K19
open PySem PySem.Spec PyProof.Rows L2.RV
/-- take_weights(words, shape), of words none of which was taken -/
def spTakeWeights (K : PySem.W.Frag) : Sp := fun vs H Q E => ∃ (a s : Addr) (ws : List Str) (ks : List Str) (d : Nat), vs = [.ref a, .ref s] ∧ WdsAt K H a ws 0 ∧ ShapeAt K H s ks d ∧
  (ws[0]? = some ("-" : Str) → ∀ H' t D b, Same H H' → H' t = some (.tup [.ref D, .ref b]) → H' D = some (.dT []) → H D = none → WdsAt K H' b ws 1 → Q (.ref t) H') ∧
  (¬ ws[0]? = some ("-" : Str) → match scanR (placesOf ks d) ws ((placesOf ks d).length + 1) 0 0 [] with
    | .inl e => BadAt K H E e
    | .inr r => ∀ H' t D b, Same H H' → H' t = some (.tup [.ref D, .ref b]) → H' D = some (.dT (plD r.1)) → H D = none → WdsAt K H' b ws r.2 → Q (.ref t) H')
theorem tn_of {σ : L2.St} {H : Hp} {Q : List V → Hp → Prop} (h : Q [] H) : tNil σ H Q := h
theorem same_put {H H' : Hp} {D : Addr} {o : HO} (s : Same H H') (n : H D = none) : Same H (upd H' D o) := fun b u z => by
  rw [upd_ne (ne_of_none z n)]
  exact s _ _ z
theorem WdsAt.put {K : PySem.W.Frag} {H : Hp} {a D : Addr} {ws : List Str} {i : Nat} {kvs : List (List L2.Key × V)} {o : HO} (x : WdsAt K H a ws i) (e : H D = some (.dT kvs)) : WdsAt K (upd H D o) a ws i := by
  obtain ⟨⟨dx, q, e1, e2⟩, f, g⟩ := x
  have n1 : a ≠ D := fun z => by rw [z, e] at e1; cases e1
  have n2 : q ≠ D := fun z => by rw [z, e] at e2; cases e2
  exact ⟨⟨dx, q, (upd_ne n1).trans e1, (upd_ne n2).trans e2⟩, f, g⟩
theorem peek_same {K : PySem.W.Frag} {H : Hp} {Q : VK} {ws : List Str} {i : Nat} {z : Str} (k : Q (.bl (decide (ws[i]? = some z))) H) : rSame K (wAt ws i) (.str z) H Q := by
  unfold wAt
  cases e : ws[i]? with
  | none =>
    rw [e] at k
    have d1 : decide ((none : Option Str) = some z) = false := decide_eq_false (by intro q; cases q)
    rw [d1] at k
    exact .inl ⟨rfl, k⟩
  | some x =>
    rw [e] at k
    have d1 : decide (some x = some z) = decide (V.str x = V.str z) := decide_eq_decide.mpr ⟨fun q => by rw [Option.some.inj q], fun q => by rw [V.str.inj q]⟩
    rw [d1] at k
    exact .inl ⟨rfl, k⟩
theorem row_placeV {K : PySem.W.Frag} {H : Hp} {b s : Addr} {ws : List Str} {i n : Nat} {ks : List Str} {d : Nat} {Q : VK} {E : XK} {x : Str} {v : Int} (hv : v = (n : Int) - 1) (wd : WdsAt K H b ws (i + 1)) (s0 : ShapeAt K H s ks d) (ln : n ≤ (placesOf ks d).length) (ex : ws[i]? = some x) (hx : isW x = true)
    (bad : ∀ e, rowAt (placesOf ks d) ws i n = .inl e → BadAt K H E e)
    (k : ∀ p, rowAt (placesOf ks d) ws i n = .inr (p, wholeNum x) → p ∈ (placesOf ks d).drop n → ∀ H' t c b', Same H H' → H' t = some (.tup [.ref c, .ref b']) → H' c = some (.tup (plV p)) → WdsAt K H' b' ws (i + 3) → Q (.ref t) H') : spTakePlace K [.ref b, .ref s, .int v] H Q E := by
  rw [hv]
  exact row_place wd s0 ln ex hx bad k
/-- the rest of the reading from the word i, behind the rows rs -/
def restR (pl : List Pl) (ws : List Str) (m i n : Nat) (rs : List (Pl × Int)) : Nat ⊕ (List (Pl × Int) × Nat) := if ws[i]? = some ("," : Str) then scanR pl ws m (i + 1) n rs else .inr (rs, i)
theorem scan_row {pl : List Pl} {ws : List Str} {m i n : Nat} {rs : List (Pl × Int)} {z : Pl × Int} (h : rowAt pl ws i n = .inr z) : scanR pl ws (m + 1) i n rs = restR pl ws m (i + 3) (pl.idxOf z.1 + 1) (rs ++ [z]) := by
  unfold scanR
  rw [h]
  rfl
theorem scan_bad {pl : List Pl} {ws : List Str} {m i n e : Nat} {rs : List (Pl × Int)} (h : rowAt pl ws i n = .inl e) : scanR pl ws (m + 1) i n rs = .inl e := by
  unfold scanR
  rw [h]
section
variable {P : Program} {w : World} {K : PySem.W.Frag} {mg : Str → Option Value} {base : Heap} {fd : FuncData}
theorem ok_take_weights (T : Top w K mg) (M_Words_peek : MethX CX0 P w K mg base (cW K) "peek" 1 ["self"] (spPeek K)) (M_Words_behind : MethX (L2.CX P w) P w K mg base (cW K) "behind" 4 ["self"] (spBehind K)) (D_take_weight : DefX (L2.CX P w) P w K mg base "take_weight" 6 ["words"] (spTakeWeight K)) (D_take_place : DefX (L2.CX P w) P w K mg base "take_place" 7 ["words", "shape", "after"] (spTakePlace K)) (DD_take_place : DefXD (L2.CX P w) P w K mg base "take_place" 7 ["words", "shape", "after"] [.int (-1)] (spTakePlace K)) (M_Shape_index_of : MethX (L2.CX P w) P w K mg base (He.ga K "Shape") "index_of" 4 ["self", "place"] (spIndexOf K)) (F : Fn K "take_weights" s_take_weights fd) : FnOk P w K mg base (L2.CX P w) 8 (He.ga K "take_weights") fd ["words", "shape"] (spTakeWeights K) := by
  refine F.ok sc_take_weights (fun vs H Q E h => ?_) (fun cdv A outer s H vs Q E hr h => ?_)
  · obtain ⟨a, s, ws, ks, d, rfl, _⟩ := h
    rfl
  · obtain ⟨a, sa, ws, ks, d, rfl, wd, s0, k1, k2⟩ := h
    have hu := hr.units
    refine ⟨_, (pss_cons (ps_if (pt_cmpR (op_sameK (K := K) rfl hu) (pe_mX0 M_Words_peek T.k_Words (hr.mono (by decide)) pass_CX0 (pv 0)) pe_str (nomark _)) (pss_one (ps_ret (pe_tup (pa_cons pe_dnewT (pa_cons (pe_mX0 M_Words_behind T.k_Words (hr.mono (by decide)) (passes_call (takes_of rfl rfl rfl rfl) (fun _ _ _ _ h => h)) (pv 0)) pa_nil))))) pss_nil)
      (pss_cons (ps_set (i := 2) sc_take_weights.nd rfl (by first | exact Or.inl rfl | exact Or.inr rfl) pe_dnewT)
      (pss_cons (ps_asg (pe_callX D_take_weight (hr.mono (by decide)) rfl (passes_call (takes_of rfl rfl rfl rfl) (fun _ _ _ _ h => h)) (pa_cons (pv 0) pa_nil)) (pg_tup rfl (pgs_cons (pg_name (i := 3) sc_take_weights.nd rfl (by first | exact Or.inl rfl | exact Or.inr rfl)) (pgs_cons (pg_name (i := 0) sc_take_weights.nd rfl (by first | exact Or.inl rfl | exact Or.inr rfl)) pgs_nil))))
      (pss_cons (ps_asg (pe_callXD DD_take_place (hr.mono (by decide)) rfl (passes_call (takes_of rfl rfl rfl rfl) (fun _ _ _ _ h => h)) (pa_cons (pv 0) (pa_cons (pv 1) pa_nil))) (pg_tup rfl (pgs_cons (pg_name (i := 4) sc_take_weights.nd rfl (by first | exact Or.inl rfl | exact Or.inr rfl)) (pgs_cons (pg_name (i := 0) sc_take_weights.nd rfl (by first | exact Or.inl rfl | exact Or.inr rfl)) pgs_nil))))
      (pss_cons (ps_asg (pv 3) (pg_sub (pv 2) (pv 4) (set_dict (Nat.lt_of_le_of_lt (Nat.add_le_add_left (by decide) _) hu))))
      (pss_cons (ps_while (passes_of rfl) (pt_cmpR (op_sameK (K := K) rfl hu) (pe_mX0 M_Words_peek T.k_Words (hr.mono (by decide)) pass_CX0 (pv 0)) pe_str (nomark _)) (pss_cons (ps_asg (pe_callX D_take_weight (hr.mono (by decide)) rfl (passes_call (takes_of rfl rfl rfl rfl) (fun _ _ _ _ h => h)) (pa_cons (pe_mX0 M_Words_behind T.k_Words (hr.mono (by decide)) (passes_call (takes_of rfl rfl rfl rfl) (fun _ _ _ _ h => h)) (pv 0)) pa_nil)) (pg_tup rfl (pgs_cons (pg_name (i := 3) sc_take_weights.nd rfl (by first | exact Or.inl rfl | exact Or.inr rfl)) (pgs_cons (pg_name (i := 0) sc_take_weights.nd rfl (by first | exact Or.inl rfl | exact Or.inr rfl)) pgs_nil))))
      (pss_cons (ps_asg (pe_callX D_take_place (hr.mono (by decide)) rfl (passes_call (takes_of rfl rfl rfl rfl) (fun _ _ _ _ h => h)) (pa_cons (pv 0) (pa_cons (pv 1) (pa_cons (pe_mX (E := E0) M_Shape_index_of T.k_Shape (hr.mono (by decide)) pass_E0 (pv 1) (pa_cons (pv 4) pa_nil)) pa_nil)))) (pg_tup rfl (pgs_cons (pg_name (i := 4) sc_take_weights.nd rfl (by first | exact Or.inl rfl | exact Or.inr rfl)) (pgs_cons (pg_name (i := 0) sc_take_weights.nd rfl (by first | exact Or.inl rfl | exact Or.inr rfl)) pgs_nil))))
      (pss_one (ps_asg (pv 3) (pg_sub (pv 2) (pv 4) (set_dict (Nat.lt_of_le_of_lt (Nat.add_le_add_left (by decide) _) hu))))))))
      (pss_one (ps_ret (pe_tup (pa_cons (pv 2) (pa_cons (pv 0) pa_nil))))))))))), ?_⟩
    obtain ⟨dx, q, e1, e2⟩ := wd.ex
    with_reducible refine seqU ?_
    with_reducible refine ifU ?_
    with_reducible refine testU ?_
    with_reducible refine opU ?_
    refine ⟨_, rfl, a, dx, wf q 0, rfl, e1, rfl, a, ws, 0, rfl, wd, ?_⟩
    suffices go : ¬ ws[0]? = some ("-" : Str) → tSeq _ _ _ [some (.ref a), some (.ref sa), none, none, none] H by
      cases e : ws[0]? with
      | none =>
        have ea : wAt ws 0 = .non := by unfold wAt; rw [e]
        rw [ea]
        refine .inl ⟨rfl, _, rfl, ?_⟩
        refine ite2 (fun c => absurd c (by decide)) (fun _ => ?_)
        exact go (by rw [e]; intro q; cases q)
      | some x =>
        have ea : wAt ws 0 = .str x := by unfold wAt; rw [e]
        rw [ea]
        refine .inl ⟨rfl, _, rfl, ?_⟩
        refine ite2 (fun c => ?_) (fun c => ?_)
        · have ex : x = "-" := V.str.inj (of_decide_eq_true c)
          with_reducible refine retU ?_
          refine fun D nD => ⟨_, rfl, a, dx, wf q 0, rfl, same_new nD _ _ e1, rfl, a, ws, 0, rfl, wd.same (same_new nD), ?_⟩
          rw [e]
          refine fun H3 b s3 wd3 => ⟨(by decide : (2 : Nat) ≤ sizeLine), fun t nt => ?_⟩
          have s4 := same_new (o := .tup [.ref D, .ref b]) nt
          exact k1 (by rw [e, ex]) _ t D b (((same_new nD).trans s3).trans s4) upd_same (s4 _ _ (s3 _ _ upd_same)) nD (wd3.same s4)
        · exact go (by
            rw [e]
            intro q
            exact c (decide_eq_true (by rw [Option.some.inj q])))
    intro n0
    replace k2 := k2 n0
    refine nxwU ?_
    with_reducible refine seqU ?_
    with_reducible refine setU ?_
    refine fun D nD => ?_
    show tSeq _ _ _ [some (.ref a), some (.ref sa), some (.ref D), none, none] _
    have sD := same_new (o := .dT []) nD
    have eD : (upd H D (.dT [])) D = some (.dT []) := upd_same
    have wdD := wd.same sD
    have s0D := s0.kp (.of sD)
    generalize upd H D (.dT []) = H1 at sD eD wdD s0D ⊢
    have bad1 : ∀ {H2}, Same H1 H2 → ∀ e, rowAt (placesOf ks d) ws 0 0 = .inl e → BadAt K H2 E e := fun s2 e he => by
      unfold scanR at k2
      rw [he] at k2
      exact BadAt.same k2 (sD.trans s2)
    with_reducible refine seqU ?_
    refine ⟨_, rfl, ?_⟩
    with_reducible refine tn_of ?_
    refine row_weight (n := 0) (pl := placesOf ks d) wdD (bad1 fun _ _ z => z) fun x ex hx H2 t b s2 et wd2 => ?_
    refine ⟨t, _, rfl, SqT.of et, rfl, _, _, rfl, _, _, rfl, rfl, ?_⟩
    show tSeq _ _ _ [some (.ref b), some (.ref sa), some (.ref D), some (.int (wholeNum x)), none] H2
    have s02 := s0D.kp (.of s2)
    with_reducible refine seqU ?_
    refine ⟨_, rfl, _, rfl, ?_⟩
    with_reducible refine tn_of ?_
    refine row_place (n := 0) wd2 s02 (Nat.zero_le _) ex hx (bad1 s2) fun p hr0 mem H3 t3 c b3 s3 et3 ec wd3 => ?_
    refine ⟨t3, _, rfl, SqT.of et3, rfl, _, _, rfl, _, _, rfl, rfl, ?_⟩
    show tSeq _ _ _ [some (.ref b3), some (.ref sa), some (.ref D), some (.int (wholeNum x)), some (.ref c)] H3
    refine nxwU ?_
    with_reducible refine seqU ?_
    have nDc : c ≠ D := fun z => by rw [z] at ec; rw [s3 _ _ (s2 _ _ eD)] at ec; cases ec
    have eD3 : H3 D = some (.dT (plD [])) := s3 _ _ (s2 _ _ eD)
    have pm : p ∈ placesOf ks d := List.mem_of_mem_drop mem
    refine ⟨_, rfl, _, rfl, _, rfl, D, _, rfl, DPut.t (k := plK p) eD3 ec (by decide), ?_⟩
    have ep : putK (plD []) (plK p) (V.int (wholeNum x)) = plD [(p, wholeNum x)] := rfl
    rw [ep]
    refine nxwU ?_
    have eD4 : (upd H3 D (.dT (plD [(p, wholeNum x)]))) D = some (.dT (plD [(p, wholeNum x)])) := upd_same
    have s4 : Same H (upd H3 D (.dT (plD [(p, wholeNum x)]))) := same_put ((sD.trans s2).trans s3) nD
    have wd4 : WdsAt K (upd H3 D (.dT (plD [(p, wholeNum x)]))) b3 ws 3 := wd3.put eD3
    have ec4 : (upd H3 D (.dT (plD [(p, wholeNum x)]))) c = some (.tup (plV p)) := (upd_ne nDc).trans ec
    generalize upd H3 D (.dT (plD [(p, wholeNum x)])) = H4 at eD4 s4 wd4 ec4 ⊢
    have k3 := k2
    rw [scan_row hr0] at k3
    with_reducible refine seqU ?_
    refine ⟨fun μ σ' H' => ∃ (rs : List (Pl × Int)) (i n : Nat) (c b : Addr) (v : Int) (p : Pl), σ' = [some (.ref b), some (.ref sa), some (.ref D), some (.int v), some (.ref c)] ∧ Same H H' ∧ H' D = some (.dT (plD rs)) ∧ WdsAt K H' b ws i ∧ H' c = some (.tup (plV p)) ∧ p ∈ placesOf ks d ∧ n = (placesOf ks d).idxOf p + 1 ∧ (∀ z ∈ rs, (placesOf ks d).idxOf z.1 < n) ∧ rs.length ≤ n ∧ scanR (placesOf ks d) ws ((placesOf ks d).length + 1) 0 0 [] = restR (placesOf ks d) ws μ i n rs ∧ (placesOf ks d).length < n + μ,
      ⟨(placesOf ks d).length, [(p, wholeNum x)], 3, _, c, b3, wholeNum x, p, rfl, s4, eD4, wd4, ec4, pm, rfl, fun z hz => by rw [List.mem_singleton.mp hz]; exact Nat.lt_succ_self _, Nat.le_add_left _ _, scan_row hr0, by omega⟩, fun μ σ' H' e => ?_⟩
    obtain ⟨rs, i, n, c', b', v, p', rfl, s5, e5, wd5, ec5, pm5, hn, low, lr, sc, fuel⟩ := e
    obtain ⟨dx5, q5, w51, w52⟩ := wd5.ex
    have pl1 : (placesOf ks d).idxOf p' < (placesOf ks d).length := List.idxOf_lt_length_of_mem pm5
    have nl : n ≤ (placesOf ks d).length := by omega
    rw [sc] at k2
    unfold restR at k2
    with_reducible refine testU ?_
    with_reducible refine opU ?_
    refine ⟨_, rfl, b', dx5, wf q5 i, rfl, w51, rfl, b', ws, i, rfl, wd5, peek_same ?_⟩
    refine ⟨_, rfl, ?_⟩
    refine ite2 (fun cc => ?_) (fun cc => ?_)
    · have hc := of_decide_eq_true cc
      rw [if_pos hc] at k2
      obtain ⟨m, rfl⟩ : ∃ m, μ = m + 1 := ⟨μ - 1, by omega⟩
      refine ⟨fun σ' H' => ∃ m', m' < m + 1 ∧ _, fun _ _ h => h, ?_⟩
      with_reducible refine seqU ?_
      refine ⟨_, rfl, b', dx5, wf q5 i, rfl, w51, rfl, b', ws, i, rfl, wd5, ?_⟩
      rw [hc]
      refine fun H6 b6 s6 wd6 => ?_
      with_reducible refine tn_of ?_
      have s06 := s5.trans s6
      have bad2 : ∀ {H2}, Same H H2 → ∀ e, rowAt (placesOf ks d) ws (i + 1) n = .inl e → BadAt K H2 E e := fun s2 e he => by
        rw [scan_bad he] at k2
        exact BadAt.same k2 s2
      refine row_weight (n := n) (pl := placesOf ks d) wd6 (bad2 s06) fun x2 ex2 hx2 H7 t7 b7 s7 et7 wd7 => ?_
      refine ⟨t7, _, rfl, SqT.of et7, rfl, _, _, rfl, _, _, rfl, rfl, ?_⟩
      show tSeq _ _ _ [some (.ref b7), some (.ref sa), some (.ref D), some (.int (wholeNum x2)), some (.ref c')] H7
      have s07 := s06.trans s7
      have sh7 := s0.kp (.of s07)
      obtain ⟨dxs, t1, t2, t3, bs, cs⟩ := sh7.core
      have ec7 := s7 _ _ (s6 _ _ ec5)
      with_reducible refine seqU ?_
      refine ⟨_, rfl, _, rfl, _, rfl, sa, dxs, _, rfl, cs.obj, rfl, _, rfl, sa, c', ks, d, p', rfl, sh7, ec7, pm5, ?_⟩
      with_reducible refine tn_of ?_
      have hv : ((ixP ks d p' : Nat) : Int) = (n : Int) - 1 := by
        unfold ixP
        rw [hn]
        omega
      refine row_placeV (n := n) hv wd7 sh7 nl ex2 hx2 (bad2 s07) fun p2 hr2 mem2 H8 t8 c8 b8 s8 et8 ec8 wd8 => ?_
      refine ⟨t8, _, rfl, SqT.of et8, rfl, _, _, rfl, _, _, rfl, rfl, ?_⟩
      refine nxwU ?_
      show tAsg _ _ _ [some (.ref b8), some (.ref sa), some (.ref D), some (.int (wholeNum x2)), some (.ref c8)] H8
      have s08 := s07.trans s8
      have e8 : H8 D = some (.dT (plD rs)) := s8 _ _ (s7 _ _ (s6 _ _ e5))
      have n8 : c8 ≠ D := fun z => by rw [z] at ec8; rw [e8] at ec8; cases ec8
      have l36 : (placesOf ks d).length ≤ 36 := by rw [length_places]; exact s0.ok.few
      have fr := idx_from (nodup_places d s0.ok.nd) mem2
      have new : p2 ∉ rs.map (·.1) := fun h => by
        obtain ⟨z, hz, ez⟩ := List.mem_map.mp h
        have := low z hz
        rw [ez] at this
        omega
      refine ⟨_, rfl, _, rfl, _, rfl, D, _, rfl, DPut.t (k := plK p2) e8 ec8 (by unfold plD; rw [List.length_map, sizeLine_eq]; omega), ?_⟩
      rw [putK_out new]
      have pm2 : p2 ∈ placesOf ks d := List.mem_of_mem_drop mem2
      refine ⟨m, Nat.lt_succ_self m, rs ++ [(p2, wholeNum x2)], i + 1 + 3, _, c8, b8, wholeNum x2, p2, rfl, same_put s08 nD, upd_same, wd8.put e8, (upd_ne n8).trans ec8, pm2, rfl, fun z hz => ?_, ?_, ?_, by omega⟩
      · rcases List.mem_append.mp hz with h | h
        · have := low z h
          omega
        · rw [List.mem_singleton.mp h]
          exact Nat.lt_succ_self _
      · rw [List.length_append]
        show rs.length + 1 ≤ _
        omega
      · rw [sc]
        unfold restR
        rw [if_pos hc]
        exact scan_row hr2
    · have hc := of_decide_eq_false (Bool.eq_false_iff.mpr cc)
      rw [if_neg hc] at k2
      refine nxwU ?_
      with_reducible refine retU ?_
      refine ⟨_, rfl, _, rfl, (by decide : (2 : Nat) ≤ sizeLine), fun t nt => ?_⟩
      have s6 := same_new (o := .tup [.ref D, .ref b']) nt
      exact k2 _ t D b' (s5.trans s6) upd_same (s6 _ _ e5) nD (wd5.same s6)
end
end L2.K19
set_option Elab.async false
set_option linter.all false
set_option maxRecDepth 100000
set_option maxHeartbeats 4000000
/-! What the end of a law's proof asks of its defs. -/
namespace L2.RV
open PySem PySem.Spec PyProof.Rows
section
variable {K : PySem.W.Frag} {x qual : Str} {params : Arguments} {body : List Stmt} {scope : Scope} {dvs : List V} {kws : List (Str × V)} {f : Addr} {fd : FuncData} {ps ks : List Str}
theorem fi_of (F : FunD K x qual params body scope dvs kws f fd) : PySem.W.fnIn K f = true := by
  obtain ⟨oc, od, dV, kV, doc, pm, an, cdv, ct, osl, rfl, lk, _⟩ := F.ex
  unfold PySem.W.fnIn
  rw [lk]
theorem vals_rev {a : List V} {b : List Value} (h : Vals a b) : Vals a.reverse b.reverse := by
  induction h with
  | nil => exact .nil
  | cons r _ ih =>
    rw [List.reverse_cons, List.reverse_cons]
    exact ih.append (.cons r .nil)
/-- a call by keywords where there are no defaults -/
theorem kbn_of (F : FunD K x qual params body scope [] [] f fd) (n : Nat) (ks : List Str) (g : {α : Type} → List α → List α → List α) (hrel : ∀ {vs zs : List V} {us ws : List Value}, Vals vs us → Vals zs ws → Vals (g vs zs) (g us ws))
    (h : ∀ (kV doc pm : Value) (an : Option Addr) (cdv ct : Value) (us ws : List Value), us.length = n → ws.length = ks.length → bindArgs (PySem.W.fnOf x qual params body scope .none kV doc pm an cdv ct) ⟨us, ks.zip ws⟩ = pure (ps.zip (g us ws))) : KBn K fd ps n ks (fun us ws => g us ws) (fun us ws => g us ws) :=
  ⟨fun s us ws _ l1 l2 => bind_ofN F (fun kV doc pm an cdv ct => h kV doc pm an cdv ct us ws l1 l2) s, hrel⟩
end
end L2.RV
set_option Elab.async false
set_option linter.all false
set_option maxRecDepth 100000
set_option maxHeartbeats 4000000
/-! C.m(..) of a classmethod, with its promise, by positions and by keywords; x(e, ..) where x is a local name that holds a class. -/
namespace L2.RV
open PySem PySem.Spec PyProof.Rows
/-- C's classmethod m, with its promise; the first value is the class -/
structure CMethX (CX : CXT) (P : Program) (w : World) (K : PySem.W.Frag) (mg : Str → Option Value) (base : Heap) (C : Addr) (m : Str) (k : Nat) (ps ks : List Str) (sp : Sp) : Prop where
  ex : ∃ mc p g fd, ClX.CRead K C mc ∧ ClX.CMet K C mc m p g ∧ Binds K fd ps [] ∧ FnOk P w K mg base CX k g fd ps sp ∧ KBn K fd ps 1 ks (fun us ws => us ++ ws.reverse) (fun us ws => us ++ ws.reverse)
/-- C.m(k = v, ..) -/
def tCMethK (C : Addr) (n : Nat) (sp : Sp) (gV : List V → List V → List V) (E : XK) (ta : TE) (tk : TA) : TE := fun σ H Q => ta σ H fun x H1 => x = .ref C ∧ tk σ H1 fun zs H2 => zs.length = n ∧ sp (gV [.ref C] zs) H2 Q E
/-- x(e, ..), x a name that holds the class at C -/
def tMkV (C : Addr) (sp : Sp) (dvs : List V) (E : XK) (tf : TE) (t : TA) : TE := fun σ H Q => tf σ H fun y H1 => y = .ref C ∧ tMake C sp dvs E t σ H1 Q
section
variable {X : Cx} {CX : CXT} {C : Addr} {k : Nat} {ps ks : List Str} {sp : Sp} {E : XK} {m x : Str} {o e : Expr} {es : List Expr} {kws : List Keyword} {ta tf : TE} {t tk : TA} {p apos pos : Pos} {pl : Sem Bool}
theorem pe_cmX (D : CMethX CX X.prog X.w X.K X.mg X.base C m k ps ks sp) (hr : Room k X.A) (hx : Passes CX X E) (ho : PE X o ta) (ha : PA X (e :: es) t)
    (hst : starEach (e :: es) X.env = (false, eval e X.env) :: starEach es X.env := by rfl) (hpl : (backTo pos (starEach es X.env)).any (·.1) = false := by rfl)
    (ht : eval (.Call (.Attribute o m apos) (e :: es) [] pos) X.env = (do
      let ov ← eval o X.env
      standAt apos.atName
      let (f, first) ← holding [ov] (getMethod ov m pl)
      callWith pos f first (backTo pos (starEach (e :: es) X.env)) (backToKw pos (keywordEach [] X.env))) := by rfl) :
    PE X (.Call (.Attribute o m apos) (e :: es) [] pos) (ClX.tCMeth C (fun vs H Q E => sp (vs ++ []) H Q E) E ta t) := by
  obtain ⟨mc, p, g, fd, r, c, b, F, _⟩ := D.ex
  exact ClX.pe_cmeth ho r c (F.raw b .nil) hr hx ha hst hpl ht
theorem pe_cmXK (D : CMethX CX X.prog X.w X.K X.mg X.base C m k ps ks sp) (hr : Room k X.A) (hx : Passes CX X E) (ho : PE X o ta) (hkw : PK X kws tk)
    (hall : (backToKw pos (keywordEach kws X.env)).all (·.1.isSome) = true := by rfl) (hks : (backToKw pos (keywordEach kws X.env)).filterMap (·.1) = ks := by rfl)
    (hpl : ((backTo pos (starEach [] X.env)).any (·.1) || (backToKw pos (keywordEach kws X.env)).any (·.1.isNone)) = false := by rfl)
    (ht : eval (.Call (.Attribute o m apos) [] kws pos) X.env = (do
      let ov ← eval o X.env
      standAt apos.atName
      let (f, first) ← holding [ov] (getMethod ov m pl)
      callWith pos f first (backTo pos (starEach [] X.env)) (backToKw pos (keywordEach kws X.env))) := by rfl) :
    PE X (.Call (.Attribute o m apos) [] kws pos) (tCMethK C ks.length sp (fun us ws => us ++ ws.reverse) E ta tk) := by
  obtain ⟨mc, p, g, fd, r, c, _, F, kb⟩ := D.ex
  refine ⟨fun pins s σ H Q I h => ?_⟩
  refine PySem.W.methodCall_KW (pl := pl) (thn (ho.run pins s σ H _ I h) fun u s1 ⟨x, H1, I1, rx, ex, q⟩ => ?_) ht
  subst ex
  obtain rfl : u = Value.ref C := rx
  refine ClX.getmethcm_ok I1 r c fun s2 I2 => ?_
  refine PySem.W.callWith_of (P := PySem.W.MethP X.K s1.heap.objs.size g (.ref C)) hpl (PySem.W.keeps_M c.fi) ?_
  refine evalArgs_kw2_nil hall (thn (hkw.run pos _ s2 σ H1 _ I2 q) fun ws s3 ⟨zs, H2, I3, rz, l, q2⟩ => ⟨⟨ClX.pin_at I3, I3.kIn⟩, ?_⟩)
  rw [hks]
  have r1 : Vals [V.ref C] [Value.ref C] := .cons rfl .nil
  have z : wpAny (model X.prog X.w) X.A (call (.ref s1.heap.objs.size) [] (ks.zip ws)) (EP X ((s1.heap.objs.size, PySem.W.methodObj (.ref g) (.ref C)) :: pins) σ Q) X.xe s3 :=
    wpAny_call (PySem.W.method_call (ClX.pin_at I3) (codeAny_mono (F.run X.A X.stack s3 H2 ⟨[Value.ref C], ks.zip ws⟩ ([Value.ref C] ++ ws.reverse) _ Q E hr I3.env0 (kb.to _ [Value.ref C] ws I3.kIn rfl (rz.length.symm.trans l)) (kb.rel r1 rz) q2) fun r'' s' hq => by
      cases r'' with
      | error e => exact hx _ σ H2 s3 e s' I3 hq
      | ok fl =>
        cases fl with
        | ret u => exact I3.after hq
        | next => exact False.elim hq
        | brk => exact False.elim hq
        | cont => exact False.elim hq))
  exact thn z fun _ _ y => ClX.unpinE y
theorem pe_mkV {C' : Str} {ps' : List Str} {dvs : List V} (D : MakeX CX X.prog X.w X.K X.mg X.base C' C k ps' dvs sp) (hr : Room (k + 1) X.A) (hx : Passes CX X E) (hf : PE X (.Name x p) tf) (ha : PA X (e :: es) t)
    (he : starEach (e :: es) X.env = (false, eval e X.env) :: starEach es X.env := by rfl) (hpl : (backTo pos (starEach es X.env)).any (·.1) = false := by rfl) :
    PE X (.Call (.Name x p) (e :: es) [] pos) (tMkV C sp dvs E tf t) := by
  obtain ⟨f, fd, ds, M, _, b, v, F⟩ := D.ex
  refine ⟨fun pins s σ H Q I h => ?_⟩
  refine wpAny_Call_Name_kw (thn (hf.run pins s σ H _ I h) fun u s1 ⟨y, H1, I1, ry, ey, q⟩ => ?_)
  subst ey
  obtain rfl : u = Value.ref C := ry
  refine PySem.W.callWith_K (h₀ := X.base) I1.ok.mod.kin M.kp (thn (ha.run pos pins s1 σ H1 _ I1 q) fun us s2 ⟨vs, H2, I2, r, q2⟩ => ⟨I2.kIn, ?_⟩) he hpl
  exact run_make M F hr b v hx I2 r q2
end
end L2.RV
set_option Elab.async false
set_option linter.all false
set_option maxRecDepth 100000
set_option maxHeartbeats 4000000
/-! Weights without noughts, some places, weights in another order. -/
namespace L2.K19
open PySem PySem.Spec PyProof.Rows L2.RV
theorem valV_in {ws : List (Pl × Int)} (nd : (ws.map (·.1)).Nodup) : ∀ z ∈ ws, valV (plD ws) (plK z.1) = some (V.int z.2) := by
  induction ws with
  | nil => exact fun z h => absurd h List.not_mem_nil
  | cons y r ih =>
    intro z hz
    rw [List.map_cons, List.nodup_cons] at nd
    have e : plD (y :: r) = (plK y.1, V.int y.2) :: plD r := rfl
    rw [e]
    rcases List.mem_cons.mp hz with rfl | h
    · exact valV_pos rfl
    · have n : ¬ plK y.1 = plK z.1 := fun e => nd.1 (by rw [plK_inj.mp e]; exact List.mem_map.mpr ⟨z, h, rfl⟩)
      rw [valV_neg (p := (plK y.1, V.int y.2)) n]
      exact ih nd.2 z h
theorem merge_plD {ws : List (Pl × Int)} (nd : (ws.map (·.1)).Nodup) : mergeT [] (plD ws) = plD ws := by
  rw [mergeT_new, List.nil_append]
  · unfold plD
    rw [List.map_map]
    have := nodup_plK nd
    rw [List.map_map] at this
    exact this
  · exact fun _ _ _ h => absurd h List.not_mem_nil
def plData (p : Pl) : PyData := .tuple [.str p.1, .int p.2]
theorem dp_places {K : PySem.W.Frag} {H : Hp} : ∀ {bs : List Addr} {ps : List Pl}, Keyed H bs (ps.map plK) → DpAll K H (bs.map V.ref) (ps.map plData)
  | [], [], _ => .nil
  | [], _ :: _, h => absurd h.1 (by simp)
  | _ :: _, [], h => absurd h.1 (by simp)
  | b :: bs, p :: ps, h => by
    have h0 := h.2 0 b (plK p) rfl rfl
    refine .cons (.tup (SqT.of h0) (.cons (.str p.1) (.cons (.int _) .nil))) (dp_places ⟨?_, fun i c k hc hk => h.2 (i + 1) c k hc hk⟩)
    have := h.1
    simpa using this
theorem shaped_places {ps : List Pl} (h : ∀ p ∈ ps, PyData.strOk p.1 = true) : PyData.canLayAll0 (ps.map plData) = true ∧ PyData.depthAll (ps.map plData) ≤ 3 := by
  induction ps with
  | nil => exact ⟨by simp [PyData.canLayAll0], by simp [PyData.depthAll]⟩
  | cons p r ih =>
    obtain ⟨a, b⟩ := ih fun q hq => h q (List.mem_cons_of_mem _ hq)
    have c := h p List.mem_cons_self
    refine ⟨?_, ?_⟩
    · rw [List.map_cons]
      simp [PyData.canLayAll0, PyData.canLay0, plData, c, a]
    · rw [List.map_cons]
      simp only [PyData.depthAll, plData, PyData.depth]
      omega
theorem shaped_plist {ps : List Pl} (h : ∀ p ∈ ps, PyData.strOk p.1 = true) : SeqAt.shaped (.list (ps.map plData)) = true := by
  obtain ⟨a, b⟩ := shaped_places h
  have e : PyData.canLay0 (.list (ps.map plData)) = true := by simp only [PyData.canLay0]; exact a
  have d : (PyData.list (ps.map plData)).depth ≤ 64 := by simp only [PyData.depth]; omega
  unfold SeqAt.shaped
  rw [e, decide_eq_true d]
  rfl
theorem no_places {ps : List Pl} : PyData.eqv (.list (ps.map plData)) (.list []) = ps.isEmpty := by
  cases ps with
  | nil => rfl
  | cons p r => rfl
theorem keyed_erase {H : Hp} {bs : List Addr} {ks : List (List L2.Key)} (z : Keyed H bs ks) (j : Nat) : Keyed H (bs.eraseIdx j) (ks.eraseIdx j) := by
  refine ⟨by rw [List.length_eraseIdx, List.length_eraseIdx, z.1], fun i b k hb hk => ?_⟩
  rw [List.getElem?_eraseIdx] at hb hk
  split at hb
  · rename_i c
    rw [if_pos c] at hk
    exact z.2 i b k hb hk
  · rename_i c
    rw [if_neg c] at hk
    exact z.2 (i + 1) b k hb hk
/-- _law_mixed(pen, weights) -/
def spMixed (K : PySem.W.Frag) : Sp := fun vs H Q _ => ∃ (p l : Addr) (ns : List Int) (a r : Int) (t : Addr) (ks : List Str) (d : Nat) (ws : List (Pl × Int)), vs = [.ref p, .ref t] ∧ PenAt H p l ns a r ∧ a ≤ 90000 ∧ H t = some (.dT (plD ws)) ∧ Wts ks d ws ∧ ShOk ks d ∧
  ∀ H' a' r' t' vs, Keep p H H' → PenAt H' p l ns a' r' → a' ≤ a + 40 → H t' = none → H' t' = some (.dT (plD vs)) → vs.Perm ws → Q (.ref t') H'
section
variable {P : Program} {w : World} {K : PySem.W.Frag} {mg : Str → Option Value} {base : Heap} {fd : FuncData}
end
end L2.K19
set_option Elab.async false
set_option linter.all false
set_option maxRecDepth 100000
set_option maxHeartbeats 4000000
/-! Questions read from texts. -/
namespace L2.K19
open PySem PySem.Spec PyProof.Rows L2.RV
/-- the value v is no instance of the class or type t -/
def NotA (K : PySem.W.Frag) (H : Hp) (v : V) (t : Value) : Prop := ∃ ty, TyX K H v ty ∧ PySem.W.kitOne K ty t = some false
/-- what is raised of a wrong shape -/
def BadQS (K : PySem.W.Frag) (H : Hp) (E : XK) : Prop := ∀ H' d, Same H H' → ErrX H' d [("part", .str "shape")] → E (.ref (ca K 6)) (some d) H'
/-- check_shape(shape), of any value -/
def spChkShape (K : PySem.W.Frag) : Sp := fun vs H Q E => ∃ v, vs = [v] ∧ ((∃ a, v = .ref a ∧ InsOf K H "Shape" a ∧ Q .non H) ∨ (NotA K H v (.ref (He.ga K "Shape")) ∧ BadQS K H E))
/-- a text of words that are not too long -/
structure TextOk (t : Str) : Prop where
  len : t.length ≤ 60000
  few : (Txt.split t " ").length ≤ 1000
  short : ∀ y, y ∈ Txt.split t " " → y.length ≤ 600
/-- words_of(text), of any value -/
def spWordsA (K : PySem.W.Frag) : Sp := fun vs H Q E => ∃ (v : V), vs = [v, .int 0] ∧ ((NotA K H v (.type "str") ∧ BadAt K H E 0) ∨
  ∃ t, v = .str t ∧ TextOk t ∧ ∀ H' b, Same H H' → WdsAt K H' b (Txt.split t " ") 0 → Q (.ref b) H')
/-- what the words of a text tell: the index of the first word that cannot stand, or the rows -/
def readW (pl : List Pl) (ws : List Str) : Nat ⊕ List (Pl × Int) := match if ws[0]? = some ("-" : Str) then .inr ([], 1) else scanR pl ws (pl.length + 1) 0 0 [] with
  | .inl e => .inl e
  | .inr r => if r.2 < ws.length then .inl r.2 else .inr r.1
/-- Question.read(text, shape) -/
def spRead (K : PySem.W.Frag) : Sp := fun vs H Q E => ∃ v sv, vs = [.ref (He.ga K "Question"), v, sv] ∧
  ((NotA K H sv (.ref (He.ga K "Shape")) ∧ BadQS K H E) ∨ ∃ s ks d, sv = .ref s ∧ ShapeAt K H s ks d ∧
    ((NotA K H v (.type "str") ∧ BadAt K H E 0) ∨ ∃ t, v = .str t ∧ TextOk t ∧ match readW (placesOf ks d) (Txt.split t " ") with
      | .inl e => BadAt K H E e
      | .inr rs => ∀ H' x dx tq pt pdx ptt bs, Same H H' → QueC K H' x dx tq pt s pdx ptt bs (bare ks d rs) (nzs ks d rs) → Q (.ref x) H'))
theorem BadQS.same {K : PySem.W.Frag} {H H' : Hp} {E : XK} (b : BadQS K H E) (s : Same H H') : BadQS K H' E := fun H2 d s2 ex => b H2 d (s.trans s2) ex
theorem rows_in {pl : List Pl} {ws : List Str} : ∀ (m i n : Nat) (rs : List (Pl × Int)) (r : List (Pl × Int) × Nat), (∀ z ∈ rs, z.1 ∈ pl) → scanR pl ws m i n rs = .inr r → ∀ z ∈ r.1, z.1 ∈ pl := by
  intro m
  induction m with
  | zero => intro i n rs r h e; unfold scanR at e; cases e <;> exact h
  | succ m ih =>
    intro i n rs r h e
    cases er : rowAt pl ws i n with
    | inl x =>
      rw [scan_bad er] at e
      cases e
    | inr z =>
      rw [scan_row er] at e
      have hm : ∀ y ∈ rs ++ [z], y.1 ∈ pl := fun y hy => by
        rcases List.mem_append.mp hy with q | q
        · exact h y q
        · rw [List.mem_singleton.mp q]
          exact List.mem_of_mem_drop (rowAt_mem er)
      unfold restR at e
      split at e
      · exact ih _ _ _ _ hm e
      · cases e
        exact hm
section
variable {P : Program} {w : World} {K : PySem.W.Frag} {mg : Str → Option Value} {base : Heap} {fd : FuncData}
theorem ok_chk_shape_any (T : Top w K mg) (R_BadQuestion : RzX P w K mg base "BadQuestion" (ca K 6) ["part"]) (F : FnA K "check_shape_questions" "check_shape" s_check_shape_questions fd) : FnOk P w K mg base (L2.CX P w) 3 (He.ga K "check_shape_questions") fd ["shape"] (spChkShape K) := by
  refine F.ok sc_check_shape_questions (fun vs H Q E h => ?_) (fun cdv A outer s H vs Q E hr h => ?_)
  · obtain ⟨a, rfl, _⟩ := h
    rfl
  · obtain ⟨v, rfl, o⟩ := h
    refine ⟨_, (pss_one (ps_if (pt_not (pt_val (pe_callB call_isi rfl T.n_isinstance (by decide +kernel) (pa_cons (pv 0) (pa_cons (pe_glob (v := .ref (He.ga K "Shape")) rfl T.g_Shape rfl) pa_nil))))) (pss_one (ps_rz R_BadQuestion rfl (hr.mono (by decide)) (takes_of rfl rfl rfl rfl) rfl (pa_cons pe_str pa_nil))) pss_nil)), ?_⟩
    rcases o with ⟨a, rfl, o, k⟩ | ⟨⟨ty, t1, t2⟩, b⟩
    · obtain ⟨ty, kt⟩ := ins_kit T.o_Shape T.o_Shape T.k_Shape o (by decide)
      exact ⟨_, rfl, _, _, _, _, _, rfl, .own _, ty, kt, _, rfl, k⟩
    · exact ⟨_, rfl, _, _, _, _, _, rfl, .own _, t1, t2, _, rfl, rz_ok R_BadQuestion rfl (by decide) fun d H2 s2 ex => b _ d s2 ex⟩
theorem ok_words_any (T : Top w K mg) (R_BadText : RzX P w K mg base "BadText" (ca K 10) ["line", "word"]) (C_Words : MakeX CX0 P w K mg base "Words" (cW K) 1 ["self", "words", "at", "line"] [] (spWInit K)) {f : Addr}
    (F : FunD K "words_of" "words_of" (defArgs s_words_of) (defBody s_words_of) (defScope s_words_of) [.int 0] [] f fd) : FnOk P w K mg base (L2.CX P w) 4 f fd ["text", "line"] (spWordsA K) := by
  refine F.ok sc_words_of (fun vs H Q E h => ?_) (fun cdv A outer s H vs Q E hr h => ?_)
  · obtain ⟨v, rfl, _⟩ := h
    rfl
  · obtain ⟨v, rfl, k⟩ := h
    have hu := hr.units
    refine ⟨_, (pss_cons (ps_if (pt_not (pt_val (pe_callB call_isi rfl T.n_isinstance (by decide +kernel) (pa_cons (pv 0) (pa_cons (pe_bltn (v := .ty "str") (u := .type "str") rfl T.n_str (by decide +kernel) rfl) pa_nil))))) (pss_one (ps_rz R_BadText rfl (hr.mono (by decide)) (takes_of rfl rfl rfl rfl) rfl (pa_cons pe_int (pa_cons pe_int pa_nil)))) pss_nil)
      (pss_one (ps_ret (pe_mkX C_Words (hr.mono (by decide)) rfl pass_CX0 (pa_cons (pe_callTy call_tuple_of rfl T.n_tuple (by decide +kernel) (pa_cons (pe_bm PySem.F.plainAttrs_str PySem.F.slot_str_split PySem.F.type_str_split mt_split (pv 0) (pa_cons pe_str pa_nil)) pa_nil)) (pa_cons pe_int (pa_cons (pv 1) pa_nil))))))), ?_⟩
    rcases k with ⟨⟨ty, t1, t2⟩, b⟩ | ⟨t, rfl, ⟨lt, few, short⟩, k⟩
    · refine ⟨_, rfl, _, _, _, _, _, rfl, .ty "str", t1, t2, _, rfl, ?_⟩
      exact rz_ok R_BadText rfl (by decide) fun d H2 s2 ex => b _ d s2 ex
    · obtain ⟨n, ty, ki, kb, ks⟩ := (kinds_str (K := K) (H := H) t).ex
      refine ⟨_, rfl, _, _, _, _, _, rfl, .ty "str", ty, kit_ty ks, _, rfl, ?_⟩
      refine ⟨_, rfl, rfl, _, _, rfl, rfl, by decide +kernel, by rw [sizeLine_eq]; omega, fun q nq => ⟨_, _, rfl, .inl ⟨SqL.of upd_same, fun l nl => ⟨_, rfl, fun x dx nx ndx nex => ⟨x, l, 0, dx, rfl, upd_same, fun H' sm hx => ⟨rfl, ?_⟩⟩⟩⟩⟩⟩
      obtain ⟨s, wd⟩ := made_words (ws := Txt.split t " ") upd_same few short nx ndx nex.symm sm hx
      exact k _ _ (((same_new nq).trans (same_new nl)).trans s) wd
theorem ok_Question_read (T : Top w K mg) (D_check_shape_questions : DefX (L2.CX P w) P w K mg base "check_shape_questions" 3 ["shape"] (spChkShape K)) (D_words_of : DefXD (L2.CX P w) P w K mg base "words_of" 4 ["text", "line"] [.int 0] (spWordsA K)) (D_take_weights : DefX (L2.CX P w) P w K mg base "take_weights" 8 ["words", "shape"] (spTakeWeights K)) (M_Words_end : MethX (L2.CX P w) P w K mg base (cW K) "end" 4 ["self"] (spEnd K))
    (C_Question : MakeX (L2.CX P w) P w K mg base "Question" (He.ga K "Question") 8 ["self", "shape", "weights"] [] (spQuestion K)) {f : Addr} (F : FunD K "read" "Question.read" (defArgs s_Question_read) (defBody s_Question_read) (defScope s_Question_read) [] [] f fd) : FnOk P w K mg base (L2.CX P w) 10 f fd ["cls", "text", "shape"] (spRead K) := by
  refine F.ok sc_Question_read (fun vs H Q E h => ?_) (fun cdv A outer s H vs Q E hr h => ?_)
  · obtain ⟨v, sv, rfl, _⟩ := h
    rfl
  · obtain ⟨v, sv, rfl, k⟩ := h
    have hu := hr.units
    refine ⟨_, (pss_cons (ps_expr (pe_callX D_check_shape_questions (hr.mono (by decide)) rfl (passes_call (takes_of rfl rfl rfl rfl) (fun _ _ _ _ h => h)) (pa_cons (pv 2) pa_nil)))
      (pss_cons (ps_asg (pe_callX D_take_weights (hr.mono (by decide)) rfl (passes_call (takes_of rfl rfl rfl rfl) (fun _ _ _ _ h => h)) (pa_cons (pe_callXD D_words_of (hr.mono (by decide)) rfl (passes_call (takes_of rfl rfl rfl rfl) (fun _ _ _ _ h => h)) (pa_cons (pv 1) pa_nil)) (pa_cons (pv 2) pa_nil))) (pg_tup rfl (pgs_cons (pg_name (i := 3) sc_Question_read.nd rfl (by first | exact Or.inl rfl | exact Or.inr rfl)) (pgs_cons (pg_name (i := 4) sc_Question_read.nd rfl (by first | exact Or.inl rfl | exact Or.inr rfl)) pgs_nil))))
      (pss_cons (ps_expr (pe_mX0 M_Words_end T.k_Words (hr.mono (by decide)) (passes_call (takes_of rfl rfl rfl rfl) (fun _ _ _ _ h => h)) (pv 4)))
      (pss_one (ps_ret (pe_mkV C_Question (hr.mono (by decide)) (passes_call (takes_of rfl rfl rfl rfl) (fun _ _ _ _ h => h)) (pv 0) (pa_cons (pv 2) (pa_cons (pv 3) pa_nil)))))))), ?_⟩
    with_reducible refine seqU ?_
    refine ⟨_, rfl, _, rfl, ?_⟩
    rcases k with k | ⟨sa, ks, d, rfl, s0, k⟩
    · exact .inr k
    refine .inl ⟨sa, rfl, s0.ins, ?_⟩
    refine nxwU ?_
    with_reducible refine seqU ?_
    refine ⟨_, rfl, ?_⟩
    with_reducible refine tn_of ?_
    refine ⟨v, rfl, ?_⟩
    rcases k with k | ⟨t, rfl, tk, k⟩
    · exact .inl k
    refine .inr ⟨t, rfl, tk, fun H1 a s1 wd => ?_⟩
    have sh1 := s0.kp (.of s1)
    have ok := s0.ok
    refine ⟨_, rfl, ?_⟩
    with_reducible refine tn_of ?_
    have rest : ∀ (rs : List (Pl × Int)) (i : Nat) (H2 : Hp) (t2 D b : Addr), (∀ z ∈ rs, z.1 ∈ placesOf ks d) → (if i < (Txt.split t " ").length then BadAt K H E i else ∀ H' x dx tq pt pdx ptt bs, Same H H' → QueC K H' x dx tq pt sa pdx ptt bs (bare ks d rs) (nzs ks d rs) → Q (.ref x) H') →
        Same H1 H2 → H2 t2 = some (.tup [.ref D, .ref b]) → H2 D = some (.dT (plD rs)) → WdsAt K H2 b (Txt.split t " ") i → gTup K 2 (gCons (gName 3) (gCons (gName 4) gNil)) (.ref t2) [some (.ref (He.ga K "Question")), some (.str t), some (.ref sa), none, none] H2 (fun σ' H' => tSeq (tDrop (tMeth (cW K) "end" (spEnd K) [] E (tVar 4) tNil)) (tRet (tMkV (He.ga K "Question") (spQuestion K) [] E (tVar 0) (tCons (tVar 2) (tCons (tVar 3) tNil)))) { nx := fun _ H' => Q .non H', rt := Q } σ' H') := by
      intro rs i H2 t2 D b hm kk s2 et eD wb
      refine ⟨t2, _, rfl, SqT.of et, rfl, _, _, rfl, _, _, rfl, rfl, ?_⟩
      show tSeq _ _ _ [some (.ref (He.ga K "Question")), some (.str t), some (.ref sa), some (.ref D), some (.ref b)] H2
      have s02 := s1.trans s2
      obtain ⟨dx, q, e1, e2⟩ := wb.ex
      with_reducible refine seqU ?_
      refine ⟨_, rfl, b, dx, wf q i, rfl, e1, rfl, b, _, i, rfl, wb, ?_⟩
      by_cases c : i < (Txt.split t " ").length
      · rw [if_pos c] at kk ⊢
        exact kk.same s02
      · rw [if_neg c] at kk ⊢
        refine nxwU ?_
        with_reducible refine retU ?_
        refine ⟨_, rfl, rfl, _, rfl, _, rfl, fun x dx nx ndx nex => ?_⟩
        have sm := made_mid (o := .ins (He.ga K "Question") dx []) nx ndx
        refine ⟨x, dx, sa, D, ks, d, rs, rfl, upd_same, (upd_ne nex).trans upd_same, (s0.kp (.of s02)).kp (.of sm), sm _ _ eD, hm, fun H3 t' pt pdx ptt bs k3 _ qc => ⟨rfl, ?_⟩⟩
        exact kk H3 x dx t' pt pdx ptt bs (s02.trans (made_same nx ndx k3)) qc
    refine ⟨a, sa, Txt.split t " ", ks, d, rfl, wd, sh1, fun h0 => ?_, fun h0 => ?_⟩
    · intro H2 t2 D b s2 et eD _ wb
      refine rest [] 1 H2 t2 D b (by intro _ h; cases h) ?_ s2 et eD wb
      unfold readW at k
      rw [if_pos h0] at k
      dsimp only at k
      split
      · rename_i c
        rw [if_pos c] at k
        exact k
      · rename_i c
        rw [if_neg c] at k
        exact k
    · unfold readW at k
      rw [if_neg h0] at k
      cases e : scanR (placesOf ks d) (Txt.split t " ") ((placesOf ks d).length + 1) 0 0 [] with
      | inl x =>
        rw [e] at k
        exact k.same s1
      | inr r =>
        rw [e] at k
        dsimp only at k ⊢
        intro H2 t2 D b s2 et eD _ wb
        refine rest r.1 r.2 H2 t2 D b (rows_in _ _ _ _ _ (by intro _ h; cases h) e) ?_ s2 et eD wb
        split
        · rename_i c
          rw [if_pos c] at k
          exact k
        · rename_i c
          rw [if_neg c] at k
          exact k
end
end L2.K19
set_option Elab.async false
set_option linter.all false
set_option maxRecDepth 100000
set_option maxHeartbeats 4000000
/-! Texts by their runs without a blank; words of a split text. -/
namespace L2.RV
open PySem PySem.Spec PyProof.Rows TL
/-- no run of signs without a blank is longer than n -/
def Run (n : Nat) (cs : List Nat) : Prop := ∀ i k, (32 : Nat) ∉ (cs.drop i).take k → ((cs.drop i).take k).length ≤ n
theorem Run.mono {n m : Nat} {cs : List Nat} (r : Run n cs) (h : n ≤ m) : Run m cs := fun i k z => Nat.le_trans (r i k z) h
theorem run_len (cs : List Nat) : Run cs.length cs := fun i k _ => by
  rw [List.length_take, List.length_drop]
  omega
theorem Run.drop {n : Nat} {cs : List Nat} (r : Run n cs) (j : Nat) : Run n (cs.drop j) := fun i k z => by
  rw [List.drop_drop] at z ⊢
  exact r _ k z
theorem Run.take {n : Nat} {cs : List Nat} (r : Run n cs) (j : Nat) : Run n (cs.take j) := fun i k z => by
  rw [List.drop_take, List.take_take] at z ⊢
  exact r i _ z
theorem Run.app {n m : Nat} {x y : List Nat} (a : Run n x) (b : Run m y) : Run (n + m) (x ++ y) := fun i k z => by
  rw [List.drop_append, List.take_append] at z ⊢
  rw [List.length_append]
  have z1 := a i k fun h => z (List.mem_append_left _ h)
  have z2 := b _ _ fun h => z (List.mem_append_right _ h)
  omega
theorem Run.all {n : Nat} {cs : List Nat} (r : Run n cs) (h : (32 : Nat) ∉ cs) : cs.length ≤ n := by
  have z := r 0 cs.length (by rw [List.drop_zero, List.take_length]; exact h)
  rw [List.drop_zero, List.take_length] at z
  exact z
theorem Run.blank {n : Nat} {x y : List Nat} (a : Run n x) (b : Run n y) : Run n (x ++ 32 :: y) := fun i k z => by
  rw [List.drop_append, List.take_append] at z ⊢
  have z1 := a i k fun h => z (List.mem_append_left _ h)
  by_cases c : i ≤ x.length
  · have e : i - x.length = 0 := by omega
    rw [e, List.drop_zero] at z ⊢
    cases d : k - (x.drop i).length with
    | zero =>
      rw [List.take_zero, List.append_nil]
      exact z1
    | succ j =>
      rw [d, List.take_succ_cons] at z
      exact absurd (List.mem_append_right _ List.mem_cons_self) z
  · have e0 : x.drop i = [] := List.drop_eq_nil_iff.mpr (by omega)
    have e1 : i - x.length = (i - x.length - 1) + 1 := by omega
    rw [e0, e1, List.drop_succ_cons, List.take_nil, List.nil_append] at z ⊢
    exact b _ _ z
theorem run_join {n : Nat} : ∀ {ls : List (List Nat)}, (∀ l ∈ ls, Run n l) → Run n (joinL [32] ls)
  | [], _ => fun i k _ => by
    show (([] : List Nat).drop i |>.take k).length ≤ n
    rw [List.drop_nil, List.take_nil]
    exact Nat.zero_le _
  | [p], h => h p List.mem_cons_self
  | p :: q :: r, h => by
    show Run n (p ++ (32 :: joinL [32] (q :: r)))
    exact (h p List.mem_cons_self).blank (run_join fun l hl => h l (List.mem_cons_of_mem _ hl))
theorem spl_free : ∀ (L acc : List Nat), (32 : Nat) ∉ acc → ∀ p ∈ spl [32] 0 acc L, (32 : Nat) ∉ p
  | [], acc, h, p, hp => by
    rw [spl_nil] at hp
    rw [List.mem_singleton.mp hp]
    exact h
  | c :: r, acc, h, p, hp => by
    by_cases e : c = 32
    · subst e
      rw [spl_hit (show pre [32] (32 :: r) = true from pre_self [32] r)] at hp
      rcases List.mem_cons.mp hp with e | hp
      · rw [e]
        exact h
      · exact spl_free r [] (by simp) p hp
    · rw [spl_miss (pre_of_head (s := 32) [] r e)] at hp
      exact spl_free r _ (fun z => by
        rcases List.mem_append.mp z with z | z
        · exact h z
        · exact e (List.mem_singleton.mp z).symm) p hp
theorem spl_run_le {n : Nat} : ∀ (L acc : List Nat), (32 : Nat) ∉ acc → Run n (acc ++ L) → ∀ p ∈ spl [32] 0 acc L, p.length ≤ n
  | [], acc, h, rn, p, hp => by
    rw [spl_nil] at hp
    rw [List.mem_singleton.mp hp]
    rw [List.append_nil] at rn
    exact rn.all h
  | c :: r, acc, h, rn, p, hp => by
    by_cases e : c = 32
    · subst e
      rw [spl_hit (show pre [32] (32 :: r) = true from pre_self [32] r)] at hp
      rcases List.mem_cons.mp hp with e | hp
      · rw [e]
        have z := rn.take acc.length
        rw [List.take_left] at z
        exact z.all h
      · have z := rn.drop (acc.length + 1)
        have e2 : (acc ++ 32 :: r).drop (acc.length + 1) = r := by
          rw [← List.drop_drop, List.drop_left]
          rfl
        rw [e2] at z
        exact spl_run_le r [] (by simp) z p hp
    · rw [spl_miss (pre_of_head (s := 32) [] r e)] at hp
      refine spl_run_le r _ (fun z => ?_) (by rw [List.append_assoc]; exact rn) p hp
      rcases List.mem_append.mp z with z | z
      · exact h z
      · exact e (List.mem_singleton.mp z).symm
theorem blank_tl : tl (" " : Str) = [32] := by decide +kernel
theorem split_tl (x : Str) : (Txt.split x " ").map tl = spl [32] 0 [] (tl x) := by
  have z := split_spl x " " (by rw [blank_tl]; simp) (kind_ok (by decide +kernel))
  rw [blank_tl] at z
  exact z
theorem split_free {x y : Str} (h : y ∈ Txt.split x " ") : (32 : Nat) ∉ tl y :=
  spl_free (tl x) [] (by simp) _ (by rw [← split_tl]; exact List.mem_map.mpr ⟨y, h, rfl⟩)
theorem split_run {n : Nat} {x y : Str} (r : Run n (tl x)) (h : y ∈ Txt.split x " ") : y.length ≤ n := by
  rw [len_tl]
  exact spl_run_le (tl x) [] (by simp) r _ (by rw [← split_tl]; exact List.mem_map.mpr ⟨y, h, rfl⟩)
theorem split_ne (x : Str) : Txt.split x " " ≠ [] := fun e => by
  have z := split_tl x
  rw [e, List.map_nil] at z
  have : ∀ (L acc : List Nat), spl [32] 0 acc L ≠ [] := by
    intro L
    induction L with
    | nil => intro acc; rw [spl_nil]; exact fun z => nomatch z
    | cons c r ih =>
      intro acc
      by_cases e : c = 32
      · subst e
        rw [spl_hit (show pre [32] (32 :: r) = true from pre_self [32] r)]
        exact fun z => nomatch z
      · rw [spl_miss (pre_of_head (s := 32) [] r e)]
        exact ih _
  exact this _ _ z.symm
theorem split_cnt (x : Str) : (Txt.split x " ").length ≤ x.length + 1 := by
  have e : (Txt.split x " ").length = (spl [32] 0 [] (tl x)).length := by rw [← split_tl, List.length_map]
  rw [e, len_tl]
  have : ∀ (L acc : List Nat), (spl [32] 0 acc L).length ≤ L.length + 1 := by
    intro L
    induction L with
    | nil => intro acc; rw [spl_nil]; exact Nat.le_refl _
    | cons c r ih =>
      intro acc
      rw [List.length_cons]
      by_cases e : c = 32
      · subst e
        rw [spl_hit (show pre [32] (32 :: r) = true from pre_self [32] r), List.length_cons]
        have := ih []
        show (spl [32] 0 [] r).length + 1 ≤ _
        omega
      · rw [spl_miss (pre_of_head (s := 32) [] r e)]
        have := ih (acc ++ [c])
        omega
  exact this _ _
theorem join_back (x : Str) : Txt.join " " (Txt.split x " ") = x := (join_eq " " _).trans (StrLaws.join_split x " ")
theorem split_back {ws : List Str} (ne : ws ≠ []) (p : ∀ w, w ∈ ws → (32 : Nat) ∉ tl w) : Txt.split (Txt.join " " ws) " " = ws := TL.split_join (y := " ") (s := 32) (S := []) (by decide +kernel) (by decide +kernel) ne p
theorem join_run {n : Nat} {ws : List Str} (h : ∀ w ∈ ws, w.length ≤ n) : Run n (tl (Txt.join " " ws)) := by
  rw [join_eq, tl_join, blank_tl]
  refine run_join fun l hl => ?_
  obtain ⟨w, hw, rfl⟩ := List.mem_map.mp hl
  have z := h w hw
  rw [len_tl] at z
  exact (run_len _).mono z
theorem joinL_cons (S p : List Nat) {X : List (List Nat)} (h : X ≠ []) : joinL S (p :: X) = p ++ (S ++ joinL S X) := by
  cases X with
  | nil => exact absurd rfl h
  | cons q r => rfl
theorem joinL_cnt : ∀ {ls : List (List Nat)}, (∀ l ∈ ls, (32 : Nat) ∉ l) → (joinL [32] ls).count 32 = ls.length - 1
  | [], _ => rfl
  | [p], h => by
    show p.count 32 = 0
    exact List.count_eq_zero.mpr (h p List.mem_cons_self)
  | p :: q :: r, h => by
    show (p ++ (32 :: joinL [32] (q :: r))).count 32 = _
    rw [List.count_append, List.count_cons_self, joinL_cnt fun l hl => h l (List.mem_cons_of_mem _ hl), List.count_eq_zero.mpr (h p List.mem_cons_self)]
    simp only [List.length_cons]
    omega
theorem join_cnt {ws : List Str} (h : ∀ w ∈ ws, (32 : Nat) ∉ tl w) : (tl (Txt.join " " ws)).count 32 = ws.length - 1 := by
  rw [join_eq, tl_join, blank_tl, joinL_cnt, List.length_map]
  intro l hl
  obtain ⟨w, hw, rfl⟩ := List.mem_map.mp hl
  exact h w hw
theorem split_len (x : Str) : (Txt.split x " ").length = (tl x).count 32 + 1 := by
  have z := join_cnt (ws := Txt.split x " ") fun w hw => split_free hw
  rw [join_back] at z
  have n : 0 < (Txt.split x " ").length := List.length_pos_iff.mpr (split_ne x)
  omega
theorem mem_joinL (S : List Nat) {c : Nat} : ∀ {ls : List (List Nat)}, c ∈ joinL S ls → c ∈ S ∨ ∃ l, l ∈ ls ∧ c ∈ l
  | [], h => by cases h
  | [p], h => .inr ⟨p, List.mem_cons_self, h⟩
  | p :: q :: r, h => by
    rcases List.mem_append.mp (show c ∈ p ++ (S ++ joinL S (q :: r)) from h) with h | h
    · exact .inr ⟨p, List.mem_cons_self, h⟩
    rcases List.mem_append.mp h with h | h
    · exact .inl h
    rcases mem_joinL S h with h | ⟨l, hl, h⟩
    · exact .inl h
    · exact .inr ⟨l, List.mem_cons_of_mem _ hl, h⟩
theorem joinL_mem (sep : List Nat) {c : Nat} : ∀ {ls : List (List Nat)} {l : List Nat}, l ∈ ls → c ∈ l → c ∈ joinL sep ls
  | [x], l, m, h => by
    rcases List.mem_singleton.mp m with rfl
    exact h
  | x :: z :: r, l, m, h => by
    show c ∈ x ++ (sep ++ joinL sep (z :: r))
    rcases List.mem_cons.mp m with rfl | m
    · exact List.mem_append_left _ h
    · exact List.mem_append_right _ (List.mem_append_right _ (joinL_mem sep m h))
theorem strOk_iff {x : Str} : PyData.strOk x = true ↔ ∀ c, c ∈ tl x → c < 0x110000 := by
  unfold PyData.strOk
  rw [← Array.all_toList, List.all_eq_true]
  exact ⟨fun h c hc => of_decide_eq_true (h c hc), fun h c hc => decide_eq_true (h c hc)⟩
theorem split_ok {x y : Str} (so : PyData.strOk x = true) (h : y ∈ Txt.split x " ") : PyData.strOk y = true := by
  rw [strOk_iff] at so ⊢
  intro c hc
  refine so c ?_
  have j := congrArg tl (join_back x)
  rw [join_eq, tl_join] at j
  rw [← j]
  exact joinL_mem _ (List.mem_map.mpr ⟨y, h, rfl⟩) hc
theorem join_ok {ws : List Str} (h : ∀ w ∈ ws, PyData.strOk w = true) : PyData.strOk (Txt.join " " ws) = true := by
  rw [strOk_iff]
  intro c hc
  rw [join_eq, tl_join, blank_tl] at hc
  rcases mem_joinL _ hc with z | ⟨l, hl, z⟩
  · rw [List.mem_singleton.mp z]
    decide
  · obtain ⟨w, hw, rfl⟩ := List.mem_map.mp hl
    exact strOk_iff.mp (h w hw) c z
theorem joinL_len : ∀ (ls : List (List Nat)), (joinL [32] ls).length ≤ (ls.map (·.length)).sum + ls.length
  | [] => Nat.le_refl _
  | [p] => by
    show p.length ≤ p.length + 0 + 1
    omega
  | p :: q :: r => by
    show (p ++ (32 :: joinL [32] (q :: r))).length ≤ _
    have z := joinL_len (q :: r)
    rw [List.length_append, List.length_cons, List.map_cons, List.sum_cons, List.length_cons]
    omega
theorem join_lenW (ws : List Str) : (Txt.join " " ws).length ≤ (ws.map (·.length)).sum + ws.length := by
  have z := joinL_len (ws.map tl)
  rw [List.map_map, List.length_map] at z
  rw [len_tl, join_eq, tl_join, blank_tl]
  have e : (ws.map fun x => x.length) = ws.map ((fun x => x.length) ∘ tl) := List.map_congr_left fun w _ => len_tl w
  rw [e]
  exact z
theorem split_sum (x : Str) : ((Txt.split x " ").map (·.length)).sum ≤ x.length := by
  have key : ∀ ls : List (List Nat), (ls.map (·.length)).sum ≤ (joinL [32] ls).length := by
    intro ls
    induction ls with
    | nil => exact Nat.le_refl _
    | cons p r ih =>
      cases r with
      | nil => show p.length + 0 ≤ p.length; omega
      | cons q r =>
        show p.length + ((q :: r).map (·.length)).sum ≤ (p ++ (32 :: joinL [32] (q :: r))).length
        rw [List.length_append, List.length_cons]
        have : ((q :: r).map (·.length)).sum ≤ (joinL [32] (q :: r)).length := ih
        omega
  have z := key ((Txt.split x " ").map tl)
  have j := congrArg tl (join_back x)
  rw [join_eq, tl_join, blank_tl] at j
  rw [j, List.map_map] at z
  rw [len_tl]
  have e : ((Txt.split x " ").map fun x => x.length) = (Txt.split x " ").map ((fun x => x.length) ∘ tl) := List.map_congr_left fun w _ => len_tl w
  rw [e]
  exact z
end L2.RV
set_option Elab.async false
set_option linter.all false
set_option maxRecDepth 100000
set_option maxHeartbeats 4000000
/-! What a question's text tells is the question, and only its text tells it. -/
namespace L2.K19
open PySem PySem.Spec PyProof.Rows L2.RV
/-- the words of a row -/
def rowW (z : Pl × Int) : List Str := [intS z.2, z.1.1, intS z.1.2]
def wordsR : List (Pl × Int) → List Str
  | [] => []
  | [z] => rowW z
  | z :: y :: r => rowW z ++ ("," : Str) :: wordsR (y :: r)
/-- the words of a question's text -/
def wordsQ (rs : List (Pl × Int)) : List Str := if rs = [] then ["-"] else wordsR rs
theorem wordsR_ne {z : Pl × Int} {r : List (Pl × Int)} : wordsR (z :: r) ≠ [] := by
  cases r <;> exact fun e => nomatch e
theorem wordsQ_ne {rs : List (Pl × Int)} : wordsQ rs ≠ [] := by
  unfold wordsQ
  split
  · exact fun e => nomatch e
  · cases rs with
    | nil => contradiction
    | cons z r => exact wordsR_ne
theorem intS_0 : intS 0 = "0" := by decide +kernel
theorem isW_int {n : Int} (h : n ≠ 0) : isW (intS n) = true := by
  unfold isW
  rw [(int_whole n).1]
  have : intS n ≠ "0" := fun e => h (intS_inj (e.trans intS_0.symm))
  rw [decide_eq_false this]
  rfl
theorem isW_ne {x : Str} (h : isW x = true) : wholeText x = true ∧ wholeNum x ≠ 0 := by
  unfold isW at h
  obtain ⟨a, b⟩ := Bool.and_eq_true_iff.mp h
  refine ⟨a, fun e => ?_⟩
  have z := whole_back a
  rw [e, intS_0] at z
  rw [z] at b
  cases b
/-- the places of rows, in the order of pl from n on -/
def InOrd (pl : List Pl) (n : Nat) (rs : List (Pl × Int)) : Prop := (rs.map (·.1)).Sublist (pl.drop n) ∧ ∀ z ∈ rs, z.2 ≠ 0
theorem sub_head {pl : List Pl} (nd : pl.Nodup) {n : Nat} {p : Pl} {ps : List Pl} (h : (p :: ps).Sublist (pl.drop n)) : p ∈ pl.drop n ∧ ps.Sublist (pl.drop (pl.idxOf p + 1)) := by
  have hm : p ∈ pl.drop n := h.subset List.mem_cons_self
  refine ⟨hm, ?_⟩
  have key : ∀ (L : List Pl), L.Nodup → ∀ ps, (p :: ps).Sublist L → ps.Sublist (L.drop (L.idxOf p + 1)) := by
    intro L
    induction L with
    | nil => intro _ ps h; cases h
    | cons c L ih =>
      intro nd ps h
      obtain ⟨nc, nd'⟩ := List.nodup_cons.mp nd
      by_cases e : c = p
      · subst e
        rw [List.idxOf_cons_self, Nat.zero_add, List.drop_succ_cons, List.drop_zero]
        cases h with
        | cons _ h => exact absurd (h.subset List.mem_cons_self) nc
        | cons_cons _ h => exact h
      · rw [List.idxOf_cons, show (c == p) = false from beq_false_of_ne e, cond_false, List.drop_succ_cons]
        cases h with
        | cons _ h => exact ih nd' ps h
        | cons_cons _ h => exact absurd rfl e
  exact key pl nd ps (h.trans (List.drop_sublist n pl))
theorem row_at {pl : List Pl} {ws rest : List Str} {i n : Nat} {z : Pl × Int} (h : ws.drop i = rowW z ++ rest) (hm : z.1 ∈ pl.drop n) (nz : z.2 ≠ 0) : rowAt pl ws i n = .inr z := by
  have at_ : ∀ j, ws[i + j]? = (rowW z ++ rest)[j]? := fun j => by rw [← h, List.getElem?_drop]
  have e0 : ws[i]? = some (intS z.2) := at_ 0
  have e1 : ws[i + 1]? = some z.1.1 := at_ 1
  have e2 : ws[i + 2]? = some (intS z.1.2) := at_ 2
  unfold rowAt
  rw [e0, e1, e2]
  dsimp only
  rw [if_pos (isW_int nz), if_pos (List.any_eq_true.mpr ⟨z.1, hm, decide_eq_true rfl⟩), if_pos (isP_iff.mpr ⟨z.1.2, hm, rfl⟩), day_back, (int_whole _).2]
theorem scan_back {pl : List Pl} (nd : pl.Nodup) {ws : List Str} : ∀ (rs : List (Pl × Int)) (m i n : Nat) (acc : List (Pl × Int)), rs ≠ [] → InOrd pl n rs → rs.length ≤ m → ws.drop i = wordsR rs → scanR pl ws m i n acc = .inr (acc ++ rs, ws.length)
  | [], _, _, _, _, h, _, _, _ => absurd rfl h
  | [z], m, i, n, acc, _, o, hm, hw => by
    obtain ⟨m, rfl⟩ : ∃ k, m = k + 1 := ⟨m - 1, by simp only [List.length_cons, List.length_nil] at hm; omega⟩
    have hz := (sub_head nd o.1).1
    rw [scan_row (row_at (rest := []) (by rw [hw]; rfl) hz (o.2 z List.mem_cons_self))]
    have l : ws.length = i + 3 := by
      have e := congrArg List.length hw
      rw [List.length_drop] at e
      have e3 : (wordsR [z]).length = 3 := rfl
      omega
    unfold restR
    rw [List.getElem?_eq_none (by omega), if_neg (fun q => nomatch q), l]
  | z :: y :: r, m, i, n, acc, _, o, hm, hw => by
    obtain ⟨m, rfl⟩ : ∃ k, m = k + 1 := ⟨m - 1, by simp only [List.length_cons] at hm; omega⟩
    obtain ⟨hz, hs⟩ := sub_head nd o.1
    have hw' : ws.drop i = rowW z ++ (("," : Str) :: wordsR (y :: r)) := hw
    rw [scan_row (row_at hw' hz (o.2 z List.mem_cons_self))]
    have ec : ws[i + 3]? = some ("," : Str) := by
      rw [← List.getElem?_drop, hw']
      rfl
    have ed : ws.drop (i + 3 + 1) = wordsR (y :: r) := by
      have e : ws.drop (i + 4) = (ws.drop i).drop 4 := by rw [List.drop_drop]
      show ws.drop (i + 4) = _
      rw [e, hw']
      rfl
    unfold restR
    rw [if_pos ec, scan_back nd (y :: r) m (i + 3 + 1) _ _ (by simp) ⟨hs, fun q hq => o.2 q (List.mem_cons_of_mem _ hq)⟩ (by simp only [List.length_cons] at hm ⊢; omega) ed, List.append_assoc]
    rfl
theorem dash_no : ∀ n : Int, intS n ≠ "-" := fun n e => by
  have z := (int_whole n).1
  rw [e] at z
  exact absurd z (by decide +kernel)
theorem read_back {pl : List Pl} (nd : pl.Nodup) {rs : List (Pl × Int)} (o : InOrd pl 0 rs) : readW pl (wordsQ rs) = .inr rs := by
  unfold readW
  cases rs with
  | nil =>
    have e : wordsQ [] = [("-" : Str)] := rfl
    rw [e]
    rfl
  | cons z r =>
    have e : wordsQ (z :: r) = wordsR (z :: r) := by unfold wordsQ; rw [if_neg (by simp)]
    have h0 : ¬ (wordsR (z :: r))[0]? = some ("-" : Str) := by
      have : (wordsR (z :: r))[0]? = some (intS z.2) := by cases r <;> rfl
      rw [this]
      exact fun q => dash_no _ (Option.some.inj q)
    have len : (z :: r).length ≤ pl.length + 1 := by
      have := o.1.length_le
      rw [List.length_map, List.drop_zero] at this
      omega
    rw [e, if_neg h0, scan_back nd (z :: r) _ 0 0 [] (by simp) o len (by rw [List.drop_zero])]
    dsimp only
    rw [if_neg (Nat.lt_irrefl _), List.nil_append]
theorem row_words {pl : List Pl} {ws : List Str} {i n : Nat} {z : Pl × Int} (h : rowAt pl ws i n = .inr z) : z.1 ∈ pl.drop n ∧ z.2 ≠ 0 ∧ ws.drop i = rowW z ++ ws.drop (i + 3) := by
  have hm := rowAt_mem h
  unfold rowAt at h
  split at h
  · cases h
  rename_i x ex
  split at h
  rotate_left
  · cases h
  rename_i hx
  split at h
  · cases h
  rename_i y ey
  split at h
  rotate_left
  · cases h
  split at h
  · cases h
  rename_i w ew
  split at h
  rotate_left
  · cases h
  rename_i hp
  cases h
  obtain ⟨wt, wn⟩ := isW_ne hx
  refine ⟨hm, wn, ?_⟩
  obtain ⟨e, he, ee⟩ := isP_iff.mp hp
  have d0 := List.getElem?_eq_some_iff.mp ex
  have d1 := List.getElem?_eq_some_iff.mp ey
  have d2 := List.getElem?_eq_some_iff.mp ew
  obtain ⟨l0, g0⟩ := d0
  obtain ⟨l1, g1⟩ := d1
  obtain ⟨l2, g2⟩ := d2
  rw [List.drop_eq_getElem_cons l0, List.drop_eq_getElem_cons l1, List.drop_eq_getElem_cons l2, g0, g1, g2]
  unfold rowW
  dsimp only
  rw [← whole_back wt, ee, day_back]
  rfl
theorem scan_words {pl : List Pl} (nd : pl.Nodup) {ws : List Str} : ∀ (m i n : Nat) (acc : List (Pl × Int)) (r : List (Pl × Int) × Nat), scanR pl ws m i n acc = .inr r →
    ∃ rs, rs ≠ [] ∧ r.1 = acc ++ rs ∧ InOrd pl n rs ∧ ws.drop i = wordsR rs ++ ws.drop r.2
  | 0, i, n, acc, r, h => by
    unfold scanR at h
    cases h
  | m + 1, i, n, acc, r, h => by
    cases er : rowAt pl ws i n with
    | inl x =>
      rw [scan_bad er] at h
      cases h
    | inr z =>
      rw [scan_row er] at h
      obtain ⟨hz, nz, hw⟩ := row_words er
      unfold restR at h
      split at h
      · rename_i ec
        obtain ⟨rs, ne, e1, o, e2⟩ := scan_words nd m _ _ _ r h
        refine ⟨z :: rs, by simp, by rw [e1, List.append_assoc]; rfl, ⟨?_, fun q hq => ?_⟩, ?_⟩
        · have s := o.1
          have hi := idx_from nd hz
          rw [List.map_cons]
          have e3 : pl.idxOf z.1 < pl.length := List.idxOf_lt_length_of_mem (List.mem_of_mem_drop hz)
          have e4 : pl.drop (pl.idxOf z.1) = z.1 :: pl.drop (pl.idxOf z.1 + 1) := by
            rw [List.drop_eq_getElem_cons e3]
            congr 1
            exact List.getElem_idxOf e3
          have e5 : (z.1 :: rs.map (·.1)).Sublist (pl.drop (pl.idxOf z.1)) := by rw [e4]; exact s.cons_cons _
          have e6 : (pl.drop (pl.idxOf z.1)).Sublist (pl.drop n) := by
            have : pl.drop (pl.idxOf z.1) = (pl.drop n).drop (pl.idxOf z.1 - n) := by rw [List.drop_drop]; congr 1; omega
            rw [this]
            exact List.drop_sublist _ _
          exact e5.trans e6
        · rcases List.mem_cons.mp hq with rfl | hq
          · exact nz
          · exact o.2 q hq
        · have e3 := List.getElem?_eq_some_iff.mp ec
          obtain ⟨l3, g3⟩ := e3
          rw [hw, List.drop_eq_getElem_cons l3, g3, e2]
          cases rs with
          | nil => exact absurd rfl ne
          | cons y r' =>
            show rowW z ++ ("," : Str) :: (wordsR (y :: r') ++ _) = (rowW z ++ ("," : Str) :: wordsR (y :: r')) ++ _
            rw [List.append_assoc]
            rfl
      · cases h
        have hi := idx_from nd hz
        refine ⟨[z], by simp, rfl, ⟨?_, fun q hq => by rw [List.mem_singleton.mp hq]; exact nz⟩, by rw [hw]; rfl⟩
        exact List.singleton_sublist.mpr hz
theorem read_words {pl : List Pl} (nd : pl.Nodup) {ws : List Str} {rs : List (Pl × Int)} (h : readW pl ws = .inr rs) (ne : ws ≠ []) : InOrd pl 0 rs ∧ ws = wordsQ rs := by
  unfold readW at h
  by_cases c : ws[0]? = some ("-" : Str)
  · rw [if_pos c] at h
    dsimp only at h
    split at h
    · cases h
    · rename_i hl
      cases h
      refine ⟨⟨by simp, fun _ hq => nomatch hq⟩, ?_⟩
      cases ws with
      | nil => exact absurd rfl ne
      | cons x r =>
        cases r with
        | nil => rw [show x = "-" from Option.some.inj c]; rfl
        | cons y r => exact absurd (by simp) hl
  · rw [if_neg c] at h
    cases e : scanR pl ws (pl.length + 1) 0 0 [] with
    | inl x =>
      rw [e] at h
      cases h
    | inr r =>
      rw [e] at h
      dsimp only at h
      split at h
      · cases h
      · rename_i hl
        cases h
        obtain ⟨rs, ne, e1, o, e2⟩ := scan_words nd _ _ _ _ _ e
        rw [List.nil_append] at e1
        rw [List.drop_zero, List.drop_eq_nil_iff.mpr (Nat.not_lt.mp hl), List.append_nil] at e2
        rw [e1]
        refine ⟨o, ?_⟩
        unfold wordsQ
        rw [if_neg ne]
        exact e2
end L2.K19
set_option Elab.async false
set_option linter.all false
set_option maxRecDepth 100000
set_option maxHeartbeats 4000000
/-! Weights: what they are bared, their sums. -/
namespace L2.K19
open PySem PySem.Spec PyProof.Rows L2.RV
theorem atD_out {ws : List (Pl × Int)} {p : Pl} (h : p ∉ ws.map (·.1)) : atD ws p = 0 := by
  have z := valV_plD (p := p) ws
  rw [valV_out h] at z
  have y : V.int 0 = V.int (atD ws p) := z
  injection y with y
  exact y.symm
theorem atD_bare {ks : List Str} {d : Nat} (ok : ShOk ks d) {ws : List (Pl × Int)} {p : Pl} (hp : p ∈ placesOf ks d) : atD (bare ks d ws) p = atD ws p := by
  have nd : ((bare ks d ws).map (·.1)).Nodup := by
    unfold bare
    rw [List.map_map]
    have e : ((fun (z : Pl × Int) => z.1) ∘ fun p => (p, atD ws p)) = id := rfl
    rw [e, List.map_id]
    exact (nodup_places d ok.nd).sublist List.filter_sublist
  cases c : nz ws p with
  | true => exact at_mem nd (p, atD ws p) (List.mem_map.mpr ⟨p, List.mem_filter.mpr ⟨hp, c⟩, rfl⟩)
  | false =>
    rw [atD_out (fun z => ?_)]
    · unfold nz at c
      by_cases e : atD ws p = 0
      · exact e.symm
      · have : decide (V.int (atD ws p) = V.int 0) = false := decide_eq_false fun y => by injection y with y; exact e y
        rw [this] at c
        cases c
    · obtain ⟨z, hz, rfl⟩ := List.mem_map.mp z
      unfold bare at hz
      obtain ⟨q, hq, rfl⟩ := List.mem_map.mp hz
      have := (List.mem_filter.mp hq).2
      rw [show nz ws q = false from c] at this
      cases this
theorem mem_bareL {ws : List (Pl × Int)} {z : Pl × Int} : z ∈ bareL ws ↔ z ∈ ws ∧ z.2 ≠ 0 := by
  unfold bareL
  rw [List.mem_filter]
  refine and_congr_right fun _ => ?_
  constructor
  · intro h e
    rw [e] at h
    exact absurd h (by decide)
  · intro h
    have : decide (V.int z.2 = V.int 0) = false := decide_eq_false fun y => by injection y with y; exact h y
    rw [this]
    rfl
theorem nz_iff {ws : List (Pl × Int)} {p : Pl} : nz ws p = true ↔ atD ws p ≠ 0 := by
  unfold nz
  constructor
  · intro h e
    rw [e] at h
    exact absurd h (by decide)
  · intro h
    have : decide (V.int (atD ws p) = V.int 0) = false := decide_eq_false fun y => by injection y with y; exact h y
    rw [this]
    rfl
theorem nd_bareL {ws : List (Pl × Int)} (nd : (ws.map (·.1)).Nodup) : ((bareL ws).map (·.1)).Nodup := nd.sublist (List.filter_sublist.map _)
theorem isSome_bareL {ws : List (Pl × Int)} (nd : (ws.map (·.1)).Nodup) (p : Pl) : (valV (plD (bareL ws)) (plK p)).isSome = nz ws p := by
  by_cases h : p ∈ (bareL ws).map (·.1)
  · obtain ⟨z, hz, rfl⟩ := List.mem_map.mp h
    rw [valV_in (nd_bareL nd) z hz]
    obtain ⟨h1, h2⟩ := mem_bareL.mp hz
    symm
    rw [show (some (V.int z.2)).isSome = true from rfl, nz_iff, at_mem nd z h1]
    exact h2
  · rw [valV_out h]
    cases c : nz ws p with
    | false => rfl
    | true =>
      have c' := nz_iff.mp c
      exfalso
      by_cases m : p ∈ ws.map (·.1)
      · obtain ⟨z, hz, rfl⟩ := List.mem_map.mp m
        rw [at_mem nd z hz] at c'
        exact h (List.mem_map.mpr ⟨z, mem_bareL.mpr ⟨hz, c'⟩, rfl⟩)
      · exact c' (atD_out m)
theorem bare_bareL {ks : List Str} {d : Nat} {ws : List (Pl × Int)} (w : Wts ks d ws) (ok : ShOk ks d) : bare ks d ws = bareL ws := by
  have nd := w.nd ok
  have key : ∀ (ps : List Pl) (vs : List (Pl × Int)), (vs.map (·.1)).Sublist ps → ps.Nodup → (∀ p ∈ ps, atD vs p = atD ws p) → (vs.map (·.1)).Nodup → ((ps.filter (nz ws)).map fun p => (p, atD ws p)) = bareL vs := by
    intro ps
    induction ps with
    | nil =>
      intro vs sub _ _ _
      have e : vs = [] := by
        have := List.sublist_nil.mp sub
        cases vs with
        | nil => rfl
        | cons z r => cases this
      rw [e]
      rfl
    | cons p r ih =>
      intro vs sub ndp at_ ndv
      rw [List.nodup_cons] at ndp
      cases vs with
      | nil =>
        have z0 : nz ws p = false := by
          cases c : nz ws p with
          | false => rfl
          | true => exact absurd (by rw [← at_ p List.mem_cons_self]; rfl) (nz_iff.mp c)
        rw [List.filter_cons, z0]
        exact ih [] (List.nil_sublist _) ndp.2 (fun q hq => at_ q (List.mem_cons_of_mem _ hq)) .nil
      | cons z vs =>
        rw [List.map_cons] at sub ndv
        rw [List.nodup_cons] at ndv
        by_cases e : z.1 = p
        · subst e
          have sub2 : (vs.map (·.1)).Sublist r := by
            cases sub with
            | cons _ s => exact absurd (s.subset List.mem_cons_self) ndp.1
            | cons_cons _ s => exact s
          have az : atD ws z.1 = z.2 := by
            rw [← at_ z.1 List.mem_cons_self]
            unfold atD
            rw [List.find?_cons_of_pos (by simp)]
            rfl
          have rest := ih vs sub2 ndp.2 (fun q hq => by
            rw [← at_ q (List.mem_cons_of_mem _ hq)]
            have n : z.1 ≠ q := fun y => ndp.1 (by rw [y]; exact hq)
            unfold atD
            rw [List.find?_cons_of_neg (by simpa using n)]) ndv.2
          rw [List.filter_cons]
          unfold bareL at rest ⊢
          rw [List.filter_cons]
          have c : nz ws z.1 = !decide (V.int z.2 = V.int 0) := by unfold nz; rw [az]
          rw [c]
          cases h : (!decide (V.int z.2 = V.int 0)) with
          | false => exact rest
          | true =>
            show (z.1, atD ws z.1) :: _ = z :: _
            rw [az, rest]
        · have sub2 : ((z :: vs).map (·.1)).Sublist r := by
            rw [List.map_cons]
            cases sub with
            | cons _ s => exact s
            | cons_cons _ s => exact absurd rfl e
          have z0 : nz ws p = false := by
            cases c : nz ws p with
            | false => rfl
            | true =>
              refine absurd ?_ (nz_iff.mp c)
              rw [← at_ p List.mem_cons_self]
              refine atD_out fun m => ndp.1 (sub2.subset m)
          rw [List.filter_cons, z0]
          exact ih (z :: vs) sub2 ndp.2 (fun q hq => at_ q (List.mem_cons_of_mem _ hq)) (by rw [List.map_cons]; exact List.nodup_cons.mpr ndv)
  exact key _ _ w.sub (nodup_places d ok.nd) (fun _ _ => rfl) nd
theorem dtSame_self {ws : List (Pl × Int)} (nd : (ws.map (·.1)).Nodup) : dtSame (plD ws) (plD ws) = true := by
  unfold dtSame
  rw [beq_self_eq_true, Bool.true_and, List.all_eq_true]
  intro p hp
  unfold plD at hp
  obtain ⟨z, hz, rfl⟩ := List.mem_map.mp hp
  exact decide_eq_true (valV_in nd z hz)
theorem dtSame_nil (ws : List (Pl × Int)) : dtSame (plD ws) [] = ws.isEmpty := by
  cases ws with
  | nil => rfl
  | cons z r => rfl
theorem total_bare {ks : List Str} {d : Nat} (ok : ShOk ks d) (ws am : List (Pl × Int)) : total (bare ks d ws) (bare ks d am) = sumL ks d ws am := by
  have key : ∀ ps : List Pl, (∀ p ∈ ps, p ∈ placesOf ks d) → ((((ps.filter (nz ws)).map fun p => (p, atD ws p)).map fun z => z.2 * atD (bare ks d am) z.1).sum) = ((ps.map fun p => atD ws p * atD am p).sum : Int) := by
    intro ps
    induction ps with
    | nil => intro _; rfl
    | cons p r ih =>
      intro h
      have ih' := ih fun q hq => h q (List.mem_cons_of_mem _ hq)
      rw [List.filter_cons]
      cases c : nz ws p with
      | true =>
        rw [if_pos rfl, List.map_cons, List.map_cons, List.sum_cons, ih', List.map_cons, List.sum_cons, atD_bare ok (h p List.mem_cons_self)]
      | false =>
        rw [if_neg (by decide), ih', List.map_cons, List.sum_cons]
        have z : atD ws p = 0 := by
          by_cases e : atD ws p = 0
          · exact e
          · have := nz_iff.mpr e
            rw [c] at this
            cases this
        rw [z, Int.zero_mul, Int.zero_add]
  exact key _ fun _ h => h
theorem bare_nil (ks : List Str) (d : Nat) : bare ks d [] = [] := by
  unfold bare
  have : (placesOf ks d).filter (nz []) = [] := List.filter_eq_nil_iff.mpr fun p _ z => absurd (nz_iff.mp z) (by simp [atD])
  rw [this]
  rfl
theorem total_nil (ws : List (Pl × Int)) : total ws [] = 0 := by
  unfold total
  induction ws with
  | nil => rfl
  | cons z r ih =>
    rw [List.map_cons, List.sum_cons, ih]
    show z.2 * 0 + 0 = 0
    rw [Int.mul_zero]
    rfl
theorem bare_mem {ks : List Str} {d : Nat} {ws : List (Pl × Int)} : ∀ z ∈ bare ks d ws, z.1 ∈ placesOf ks d ∧ z.2 = atD ws z.1 := fun z hz => by
  unfold bare at hz
  obtain ⟨p, hp, rfl⟩ := List.mem_map.mp hz
  exact ⟨(List.mem_filter.mp hp).1, rfl⟩
theorem bare_few {ks : List Str} {d : Nat} (ok : ShOk ks d) (ws : List (Pl × Int)) : (bare ks d ws).length ≤ 36 := by
  have z := List.length_filter_le (nz ws) (placesOf ks d)
  rw [length_places] at z
  have := ok.few
  unfold bare
  rw [List.length_map]
  omega
theorem bare_bits {ks : List Str} {d : Nat} {ws : List (Pl × Int)} (b : Bits ws) : Bits (bare ks d ws) := fun z hz => by
  rw [(bare_mem z hz).2]
  exact b.at_ _
theorem atD_perm {gs ws : List (Pl × Int)} (p : gs.Perm ws) (nd : (ws.map (·.1)).Nodup) (x : Pl) : atD gs x = atD ws x := by
  have ndg : (gs.map (·.1)).Nodup := (p.map (·.1)).nodup_iff.mpr nd
  by_cases h : x ∈ ws.map (·.1)
  · obtain ⟨z, hz, rfl⟩ := List.mem_map.mp h
    rw [at_mem nd z hz, at_mem ndg z (p.mem_iff.mpr hz)]
  · rw [atD_out h, atD_out fun z => h ((p.map (·.1)).mem_iff.mp z)]
theorem nz_perm {gs ws : List (Pl × Int)} (p : gs.Perm ws) (nd : (ws.map (·.1)).Nodup) : nz gs = nz ws := by
  funext x
  unfold nz
  rw [atD_perm p nd]
theorem bare_perm {ks : List Str} {d : Nat} {gs ws : List (Pl × Int)} (p : gs.Perm ws) (nd : (ws.map (·.1)).Nodup) : bare ks d gs = bare ks d ws := by
  unfold bare
  rw [nz_perm p nd]
  exact List.map_congr_left fun x _ => by rw [atD_perm p nd]
theorem eqvAll_len : ∀ (xs ys : List PyData), xs.length ≠ ys.length → PyData.eqvAll xs ys = false
  | [], [], h => absurd rfl h
  | [], _ :: _, _ => by unfold PyData.eqvAll; rfl
  | _ :: _, [], _ => by unfold PyData.eqvAll; rfl
  | x :: xs, y :: ys, h => by
    unfold PyData.eqvAll
    rw [eqvAll_len xs ys (fun z => h (by rw [List.length_cons, List.length_cons, z])), Bool.and_false]
theorem shapeEq_len {ks ls : List Str} (d e : Nat) (h : ks.length ≠ ls.length) : shapeEq ks d ls e = false := by
  have z : PyData.eqv (keysD ks) (keysD ls) = false := by
    unfold keysD
    unfold PyData.eqv
    exact eqvAll_len _ _ (by rw [List.length_map, List.length_map]; exact h)
  unfold shapeEq
  rw [z]
  rfl
end L2.K19
set_option Elab.async false
set_option linter.all false
set_option maxRecDepth 100000
set_option maxHeartbeats 4000000
/-! A question's text, by its words. -/
namespace L2.K19
open PySem PySem.Spec PyProof.Rows L2.RV TL
open PySem.NumText (digitsVal)
theorem alpha_code : ∀ c : Fin 128, Unicode.isAlpha c.val = true → c.val ≠ 32 := by decide +kernel
theorem name_free {x : Str} (h : isName x = true) : (32 : Nat) ∉ tl x ∧ PyData.strOk x = true ∧ x.length ≤ 8 := by
  unfold isName at h
  obtain ⟨_, h⟩ := Bool.and_eq_true_iff.mp h
  obtain ⟨l8, h⟩ := Bool.and_eq_true_iff.mp h
  obtain ⟨ha, h⟩ := Bool.and_eq_true_iff.mp h
  obtain ⟨hb, _⟩ := Bool.and_eq_true_iff.mp h
  have a' : x.cps.all (fun c => decide (c < 128)) = true := ha
  obtain ⟨_, b2⟩ := Bool.and_eq_true_iff.mp (show (decide (x.length > 0) && x.cps.all Unicode.isAlpha) = true from hb)
  have lt : ∀ c ∈ tl x, c < 128 := fun c hc => of_decide_eq_true (Array.all_eq_true'.mp a' c (Array.mem_def.mpr hc))
  refine ⟨fun hc => ?_, strOk_iff.mpr fun c hc => ?_, ?_⟩
  · exact alpha_code ⟨32, by decide⟩ (Array.all_eq_true'.mp b2 32 (Array.mem_def.mpr hc)) rfl
  · have := lt c hc
    omega
  · have := of_decide_eq_true l8
    omega
theorem int_code {n : Int} {c : Nat} (h : c ∈ tl (intS n)) : c = 45 ∨ (48 ≤ c ∧ c ≤ 57) := by
  rw [tl_int] at h
  have d := (digW_numL n.natAbs).1
  split at h
  · rcases List.mem_cons.mp h with h | h
    · exact .inl h
    · exact .inr (d c h)
  · exact .inr (d c h)
theorem int_free (n : Int) : (32 : Nat) ∉ tl (intS n) ∧ PyData.strOk (intS n) = true := by
  refine ⟨fun h => ?_, strOk_iff.mpr fun c h => ?_⟩
  · have := int_code h
    omega
  · have := int_code h
    omega
theorem int_lenK {n : Int} {k : Nat} (k0 : k ≠ 0) (h : n.natAbs < 10 ^ k) : (intS n).length ≤ k + 1 := by
  have l := TL.numL_len (Nat.pos_of_ne_zero k0) h
  rw [TL.len_tl, tl_int]
  split
  · rw [List.length_cons]
    omega
  · omega
theorem int_small {n : Int} {k : Nat} (h : (intS n).length ≤ k) : n.natAbs < 10 ^ k := by
  have v := val_lt (digW_numL n.natAbs).1
  rw [numL_val] at v
  refine Nat.lt_of_lt_of_le v (Nat.pow_le_pow_right (by decide) ?_)
  rw [TL.len_tl, tl_int] at h
  split at h
  · rw [List.length_cons] at h
    omega
  · exact h
theorem place_name {ks : List Str} {d : Nat} {p : Pl} (h : p ∈ placesOf ks d) : p.1 ∈ ks ∧ p.2 < d := by
  unfold placesOf at h
  obtain ⟨k, hk, h⟩ := List.mem_flatMap.mp h
  obtain ⟨i, hi, rfl⟩ := List.mem_map.mp h
  exact ⟨hk, List.mem_range.mp hi⟩
theorem mem_wordsR {w : Str} : ∀ {rs : List (Pl × Int)}, w ∈ wordsR rs → w = "," ∨ ∃ z ∈ rs, w ∈ rowW z
  | [], h => by cases h
  | [z], h => .inr ⟨z, List.mem_cons_self, h⟩
  | z :: y :: r, h => by
    rcases List.mem_append.mp (show w ∈ rowW z ++ ("," : Str) :: wordsR (y :: r) from h) with h | h
    · exact .inr ⟨z, List.mem_cons_self, h⟩
    rcases List.mem_cons.mp h with h | h
    · exact .inl h
    rcases mem_wordsR h with h | ⟨q, hq, h⟩
    · exact .inl h
    · exact .inr ⟨q, List.mem_cons_of_mem _ hq, h⟩
theorem mem_wordsQ {w : Str} {rs : List (Pl × Int)} (h : w ∈ wordsQ rs) : w = "-" ∨ w = "," ∨ ∃ z ∈ rs, w ∈ rowW z := by
  unfold wordsQ at h
  split at h
  · exact .inl (List.mem_singleton.mp h)
  · exact .inr (mem_wordsR h)
theorem wordsR_len : ∀ (rs : List (Pl × Int)), (wordsR rs).length ≤ 4 * rs.length
  | [] => Nat.le_refl _
  | [z] => by
    show (3 : Nat) ≤ 4 * 1
    decide
  | z :: y :: r => by
    have := wordsR_len (y :: r)
    show (rowW z ++ ("," : Str) :: wordsR (y :: r)).length ≤ _
    rw [List.length_append, List.length_cons]
    have e : (rowW z).length = 3 := rfl
    simp only [List.length_cons] at this ⊢
    omega
theorem wordsQ_len (rs : List (Pl × Int)) : (wordsQ rs).length ≤ 4 * rs.length + 1 := by
  unfold wordsQ
  split
  · exact Nat.le_add_left _ _
  · have := wordsR_len rs
    omega
/-- what each word of a question's text is like -/
theorem word_facts {ks : List Str} {d : Nat} (ok : ShOk ks d) {rs : List (Pl × Int)} (mem : ∀ z ∈ rs, z.1 ∈ placesOf ks d) {k : Nat} (k8 : 8 ≤ k) (lim : ∀ z ∈ rs, z.2.natAbs < 10 ^ k) {w : Str} (h : w ∈ wordsQ rs) : (32 : Nat) ∉ tl w ∧ PyData.strOk w = true ∧ w.length ≤ k + 1 := by
  rcases mem_wordsQ h with rfl | rfl | ⟨z, hz, h⟩
  · have l1 : ("-" : Str).length = 1 := by decide +kernel
    exact ⟨by decide +kernel, by decide +kernel, by omega⟩
  · have l1 : ("," : Str).length = 1 := by decide +kernel
    exact ⟨by decide +kernel, by decide +kernel, by omega⟩
  · have hm := mem z hz
    obtain ⟨hn, hd⟩ := place_name hm
    unfold rowW at h
    rcases List.mem_cons.mp h with rfl | h
    · exact ⟨(int_free _).1, (int_free _).2, int_lenK (by omega) (lim z hz)⟩
    rcases List.mem_cons.mp h with rfl | h
    · obtain ⟨a, b, c⟩ := name_free (ok.names _ hn)
      exact ⟨a, b, by omega⟩
    · rw [List.mem_singleton.mp h]
      refine ⟨(int_free _).1, (int_free _).2, ?_⟩
      have d8 := ok.d8
      have : (intS (z.1.2 : Int)).length ≤ 1 + 1 := int_lenK (by decide) (by rw [Int.natAbs_natCast]; omega)
      omega
theorem tl_row (ws : List (Pl × Int)) (p : Pl) : tl (rowT ws p) = tl (intS (atD ws p)) ++ ([32] ++ (tl p.1 ++ ([32] ++ tl (intS p.2)))) := by
  unfold rowT
  rw [tl_append, tl_append, tl_append, tl_append, tl_append, blank_tl]
  show [] ++ _ ++ _ ++ _ ++ _ ++ _ = _
  simp only [List.nil_append, List.append_assoc]
theorem comma_tl : tl (" , " : Str) = [32, 44, 32] := by decide +kernel
theorem comma1 : tl ("," : Str) = [44] := by decide +kernel
/-- a question's text is its words with blanks between -/
theorem text_words {rs : List (Pl × Int)} (nd : (rs.map (·.1)).Nodup) : qText rs = Txt.join " " (wordsQ rs) := by
  unfold qText wordsQ
  by_cases c : rs = []
  · rw [if_pos c, if_pos c]
    exact str_ext rfl
  rw [if_neg c, if_neg c]
  refine str_ext ?_
  rw [join_eq, join_eq, tl_join, tl_join, comma_tl, blank_tl, List.map_map]
  have key : ∀ l : List (Pl × Int), l ≠ [] → (∀ z ∈ l, atD rs z.1 = z.2) → joinL [32, 44, 32] (l.map (tl ∘ fun z => rowT rs z.1)) = joinL [32] ((wordsR l).map tl) := by
    intro l
    induction l with
    | nil => intro h; exact absurd rfl h
    | cons z r ih =>
      intro _ h
      have hz := h z List.mem_cons_self
      cases r with
      | nil =>
        show tl (rowT rs z.1) = _
        rw [tl_row, hz]
        rfl
      | cons y r =>
        have ih' := ih (by simp) fun q hq => h q (List.mem_cons_of_mem _ hq)
        rw [List.map_cons, joinL_cons _ _ (by simp), ih']
        show tl (rowT rs z.1) ++ _ = joinL [32] (tl (intS z.2) :: tl z.1.1 :: tl (intS z.1.2) :: tl ("," : Str) :: (wordsR (y :: r)).map tl)
        rw [joinL_cons _ _ (by simp), joinL_cons _ _ (by simp), joinL_cons _ _ (by simp), joinL_cons _ _ (fun e => wordsR_ne (List.map_eq_nil_iff.mp e)), tl_row, hz, comma1]
        simp only [List.append_assoc, List.cons_append, List.nil_append]
  exact key rs c fun z hz => at_mem nd z hz
theorem sub_filter {l L : List Pl} (s : l.Sublist L) (nd : L.Nodup) : L.filter (fun p => decide (p ∈ l)) = l := by
  induction s with
  | slnil => rfl
  | @cons l L a s ih =>
    obtain ⟨na, nd'⟩ := List.nodup_cons.mp nd
    rw [List.filter_cons_of_neg (p := fun p => decide (p ∈ l)) (by
      intro h
      exact na (s.subset (of_decide_eq_true h)))]
    exact ih nd'
  | @cons_cons l L a s ih =>
    obtain ⟨na, nd'⟩ := List.nodup_cons.mp nd
    rw [List.filter_cons_of_pos (p := fun p => decide (p ∈ a :: l)) (decide_eq_true List.mem_cons_self)]
    have e : L.filter (fun p => decide (p ∈ a :: l)) = L.filter (fun p => decide (p ∈ l)) := List.filter_congr fun p hp => by
      refine decide_eq_decide.mpr ⟨fun h => ?_, List.mem_cons_of_mem _⟩
      rcases List.mem_cons.mp h with rfl | h
      · exact absurd hp na
      · exact h
    rw [e, ih nd']
theorem bare_inord {ks : List Str} {d : Nat} (ok : ShOk ks d) {rs : List (Pl × Int)} (o : InOrd (placesOf ks d) 0 rs) : bare ks d rs = rs := by
  have s := o.1
  rw [List.drop_zero] at s
  have ndp := nodup_places d ok.nd
  have nd := ndp.sublist s
  unfold bare
  have e : (placesOf ks d).filter (nz rs) = rs.map (·.1) := by
    rw [← sub_filter s ndp]
    refine List.filter_congr fun p hp => ?_
    by_cases h : p ∈ rs.map (·.1)
    · rw [decide_eq_true h]
      obtain ⟨z, hz, rfl⟩ := List.mem_map.mp h
      exact nz_iff.mpr (by rw [at_mem nd z hz]; exact o.2 z hz)
    · rw [decide_eq_false h]
      cases c : nz rs p with
      | false => rfl
      | true => exact absurd (atD_out h) (nz_iff.mp c)
  rw [e, List.map_map]
  refine Eq.trans ?_ (List.map_id rs)
  refine List.map_congr_left fun z hz => ?_
  show (z.1, atD rs z.1) = z
  rw [at_mem nd z hz]
theorem inord_bare {ks : List Str} {d : Nat} (ws : List (Pl × Int)) : InOrd (placesOf ks d) 0 (bare ks d ws) := by
  unfold bare
  refine ⟨?_, fun z hz => ?_⟩
  · rw [List.map_map, List.drop_zero]
    have e : ((fun (z : Pl × Int) => z.1) ∘ fun p => (p, atD ws p)) = id := rfl
    rw [e, List.map_id]
    exact List.filter_sublist
  · obtain ⟨p, hp, rfl⟩ := List.mem_map.mp hz
    exact nz_iff.mp (List.mem_filter.mp hp).2
theorem InOrd.mem {pl : List Pl} {rs : List (Pl × Int)} (o : InOrd pl 0 rs) : ∀ z ∈ rs, z.1 ∈ pl := fun z hz => by
  have s := o.1
  rw [List.drop_zero] at s
  exact s.subset (List.mem_map.mpr ⟨z, hz, rfl⟩)
theorem InOrd.nd {ks : List Str} {d : Nat} (ok : ShOk ks d) {rs : List (Pl × Int)} (o : InOrd (placesOf ks d) 0 rs) : (rs.map (·.1)).Nodup := by
  have s := o.1
  rw [List.drop_zero] at s
  exact (nodup_places d ok.nd).sublist s
theorem InOrd.few {ks : List Str} {d : Nat} (ok : ShOk ks d) {rs : List (Pl × Int)} (o : InOrd (placesOf ks d) 0 rs) : rs.length ≤ 36 := by
  have s := o.1.length_le
  rw [List.length_map, List.drop_zero, length_places] at s
  have := ok.few
  omega
/-- a text split into its words -/
theorem split_text {ks : List Str} {d : Nat} (ok : ShOk ks d) {rs : List (Pl × Int)} (o : InOrd (placesOf ks d) 0 rs) {k : Nat} (k8 : 8 ≤ k) (lim : ∀ z ∈ rs, z.2.natAbs < 10 ^ k) : Txt.split (qText rs) " " = wordsQ rs := by
  rw [text_words (o.nd ok)]
  exact split_back wordsQ_ne fun w hw => (word_facts ok o.mem k8 lim hw).1
theorem read_text {ks : List Str} {d : Nat} (ok : ShOk ks d) {rs : List (Pl × Int)} (o : InOrd (placesOf ks d) 0 rs) {k : Nat} (k8 : 8 ≤ k) (lim : ∀ z ∈ rs, z.2.natAbs < 10 ^ k) : readW (placesOf ks d) (Txt.split (qText rs) " ") = .inr rs := by
  rw [split_text ok o k8 lim]
  exact read_back (nodup_places d ok.nd) o
/-- only its text is read as a question -/
theorem read_only {ks : List Str} {d : Nat} (ok : ShOk ks d) {t : Str} {rs : List (Pl × Int)} (h : readW (placesOf ks d) (Txt.split t " ") = .inr rs) (short : ∀ y, y ∈ Txt.split t " " → y.length ≤ 600) : InOrd (placesOf ks d) 0 rs ∧ qText rs = t ∧ Lim rs := by
  obtain ⟨o, e⟩ := read_words (nodup_places d ok.nd) h (split_ne t)
  refine ⟨o, ?_, fun z hz => ?_⟩
  · rw [text_words (o.nd ok), ← e, join_back]
  · rw [at_mem (o.nd ok) z hz]
    refine int_small (short _ ?_)
    rw [e]
    unfold wordsQ
    rw [if_neg (fun q => by rw [q] at hz; cases hz)]
    have key : ∀ l : List (Pl × Int), z ∈ l → intS z.2 ∈ wordsR l := by
      intro l
      induction l with
      | nil => intro h; cases h
      | cons y r ih =>
        intro h
        cases r with
        | nil =>
          rw [List.mem_singleton.mp h]
          exact List.mem_cons_self
        | cons x r =>
          show _ ∈ rowW y ++ ("," : Str) :: wordsR (x :: r)
          rcases List.mem_cons.mp h with rfl | h
          · exact List.mem_append_left _ List.mem_cons_self
          · exact List.mem_append_right _ (List.mem_cons_of_mem _ (ih h))
    exact key rs hz
end L2.K19
set_option Elab.async false
set_option linter.all false
set_option maxRecDepth 100000
set_option maxHeartbeats 4000000
/-! The law's own look at a word. -/
namespace L2.K19
open PySem PySem.Spec PyProof.Rows L2.RV NumText TL
def figs (t : Str) : Bool := (tl t).all fun c => decide (c ∈ ("0123456789" : Str).cps.toList)
theorem eqv_nilS (xs : List Str) : PyData.eqv (.list (xs.map PyData.str)) (.list ([] : List PyData)) = xs.isEmpty := by
  cases xs with
  | nil => simp [PyData.eqv, PyData.eqvAll]
  | cons x xs => simp [PyData.eqv, PyData.eqvAll]
theorem sign_ok {t : Str} (so : PyData.strOk t = true) {c : Nat} (m : c ∈ t.cps.toList) : PyData.strOk ⟨#[c]⟩ = true := by
  unfold PyData.strOk at so ⊢
  rw [← Array.all_toList] at so ⊢
  have z := List.all_eq_true.mp so c m
  exact List.all_eq_true.mpr fun d hd => by
    rcases List.mem_singleton.mp hd with rfl
    exact z
def nf (c : Nat) : Bool := !decide (c ∈ ("0123456789" : Str).cps.toList)
/-- [sign for sign in t if sign not in "0123456789"] != [] -/
theorem signs_ok {K : PySem.W.Frag} {σ : L2.St} {H : Hp} {Q : Bool → Hp → Prop} {t : Str} {i j : Nat} (vi : σ[i]? = some (some (.str t))) (lj : j < σ.length) (lt : t.length ≤ 600) (so : PyData.strOk t = true)
    (k : ∀ H', Same H H' → Q (!figs t) H') :
    tTest (tOp (rDiff K) (tLc (iStr (tVar i)) (gName j) (tTest (tOp rNotInS (tVar j) (tC (.str "0123456789")))) (tVar j) [j]) (tLstN tNil)) σ H Q := by
  refine ⟨_, vi, t, rfl, fun D nD => ?_⟩
  have ll : t.cps.toList.length = t.cps.size := Array.length_toList
  have l60 : t.cps.size ≤ 600 := lt
  refine lc_it walk_str (fun n H' => Same H H' ∧ H' D = some (.lst ((((t.cps.toList.take n).filter nf).map fun c => (⟨#[c]⟩ : Str)).map V.str))) ⟨same_new nD, upd_same⟩ (fun n H' _ p => True.intro) (fun n x H' H2 hn p y => ?_) (fun H' p => ?_)
  · obtain ⟨rfl, c, hc, rfl⟩ := y
    have lt' : n < t.cps.toList.length := by rw [ll]; exact hn
    have hc' : t.cps.toList[n] = c := by
      rw [Array.getElem?_eq_getElem hn] at hc
      rw [Array.getElem_toList]
      exact Option.some.inj hc
    have et : t.cps.toList.take (n + 1) = t.cps.toList.take n ++ [c] := by
      rw [← hc']
      exact (List.take_append_getElem lt').symm
    have g := List.getElem?_set_self (a := some (V.str ⟨#[c]⟩)) (show j < (wipe σ [j]).length by simp only [wipe, List.length_set]; exact lj)
    refine ⟨by simp only [wipe, List.set_set], _, g, c, _, rfl, rfl, _, rfl, ?_⟩
    have small : ((t.cps.toList.take n).filter nf).length ≤ 600 := Nat.le_trans (List.length_filter_le _ _) (by rw [List.length_take]; omega)
    rw [et, List.filter_append]
    refine ite2 (fun b => ?_) (fun b => ?_)
    · refine ⟨_, g, _, p.2, by rw [List.length_map, List.length_map, sizeLine_eq]; omega, same_put p.1 nD, ?_⟩
      rw [upd_same, List.filter_cons_of_pos (p := nf) b, List.filter_nil, List.map_append, List.map_append]
      rfl
    · rw [List.filter_cons_of_neg (p := nf) b, List.filter_nil, List.append_nil]
      exact p
  · obtain ⟨s1, hD⟩ := p
    rw [← ll, List.take_length] at hD
    generalize hL : (t.cps.toList.filter nf) = L at hD
    refine ⟨(by decide : (0 : Nat) ≤ sizeLine), fun l nl _ => .inr ⟨.list ((L.map fun c => (⟨#[c]⟩ : Str)).map PyData.str), .list [], ?_, ?_, ?_, ?_, _, rfl, ?_⟩⟩
    · exact .lst (SqL.of (same_new nl _ _ hD)) (dpA_str _)
    · exact .lst (SqL.of upd_same) .nil
    · refine shaped_str (List.all_eq_true.mpr fun y hy => ?_)
      obtain ⟨c, hc, rfl⟩ := List.mem_map.mp hy
      rw [← hL] at hc
      exact sign_ok so (List.mem_filter.mp hc).1
    · exact shaped_str (xs := []) rfl
    · rw [eqv_nilS]
      have e : (L.map fun c => (⟨#[c]⟩ : Str)).isEmpty = figs t := by
        rw [← hL]
        unfold figs
        show ((t.cps.toList.filter nf).map _).isEmpty = t.cps.toList.all _
        generalize t.cps.toList = C
        induction C with
        | nil => rfl
        | cons c C ih =>
          rw [List.all_cons, List.filter_cons]
          unfold nf
          by_cases z : c ∈ ("0123456789" : Str).cps.toList
          · simp only [z, decide_true, Bool.not_true, Bool.true_and, Bool.false_eq_true, if_false]
            exact ih
          · simp only [z, decide_false, Bool.not_false, Bool.false_and, if_true]
            rfl
      rw [e]
      exact k _ (s1.trans (same_new nl))
theorem fig_code (c : Nat) : decide (c ∈ ("0123456789" : Str).cps.toList) = true ↔ 48 ≤ c ∧ c ≤ 57 := by
  have e : ("0123456789" : Str).cps.toList = [48, 49, 50, 51, 52, 53, 54, 55, 56, 57] := by decide +kernel
  rw [e, decide_eq_true_iff]
  simp only [List.mem_cons, List.not_mem_nil, or_false]
  omega
theorem figs_iff (d : Str) : figs d = true ↔ AllDigits (tl d) := by
  unfold figs
  rw [List.all_eq_true]
  exact ⟨fun h c hc => (fig_code c).mp (h c hc), fun h c hc => (fig_code c).mpr (h c hc)⟩
/-- the law's figures of a word are the program's digits -/
theorem cut_dash (t : Str) : (if decide (V.str (cutS t none (some 1)) = V.str "-") = true then cutS t (some 1) none else t) = digitsOf t := by
  have e1 : (1 : Int) = ((1 : Nat) : Int) := rfl
  have z : tl (cutS t none (some 1)) = (tl t).take 1 := by rw [e1, tl_cut0]
  cases h : tl t with
  | nil =>
    rw [h] at z
    rw [if_neg (fun q => by
      have := V.str.inj (of_decide_eq_true q)
      rw [this] at z
      exact absurd z (by decide +kernel)), (digits_nil h).1]
  | cons c cs =>
    rw [h] at z
    by_cases c45 : c = 45
    · subst c45
      have ed : tl ("-" : Str) = [45] := by decide +kernel
      have e : cutS t none (some 1) = "-" := str_ext (z.trans ed.symm)
      rw [if_pos (decide_eq_true (by rw [e]))]
      unfold digitsOf
      rw [if_pos (digits_neg h).2]
    · rw [if_neg (fun q => by
        have := V.str.inj (of_decide_eq_true q)
        rw [this] at z
        have e : tl ("-" : Str) = [45] := by decide +kernel
        rw [e] at z
        exact c45 (List.cons.inj z).1.symm), (digits_pos h c45).1]
/-- _law_is_number(word) -/
def spLIsNum : Sp := fun vs H Q _ => ∃ (t : Str), vs = [.str t] ∧ t.length ≤ 600 ∧ PyData.strOk t = true ∧ ∀ H', Same H H' → Q (.bl (wholeText t)) H'
section
variable {P : Program} {w : World} {K : PySem.W.Frag} {mg : Str → Option Value} {base : Heap} {fd : FuncData}
theorem ok_law_is_number (T : Top w K mg) (F : Fn K "_law_is_number" s_law_is_number fd) : FnOk P w K mg base CX0 1 (He.ga K "_law_is_number") fd ["_law_word"] spLIsNum := by
  refine F.ok sc_law_is_number (fun vs H Q E h => ?_) (fun cdv A outer s H vs Q E hr h => ?_)
  · obtain ⟨t, rfl, _⟩ := h
    rfl
  · obtain ⟨t, rfl, lt, so, k⟩ := h
    have hu := hr.units
    refine ⟨_, PSs.nox (pss_cons (ps_set (i := 1) sc_law_is_number.nd rfl (by first | exact Or.inl rfl | exact Or.inr rfl) (pe_ifExp (pt_cmpR (op_sameK (K := K) rfl hu) (pe_slice sl_str (pv 0) po_none (po_some pe_int)) pe_str (nomark _)) (pe_slice sl_str (pv 0) (po_some pe_int) po_none) (pv 0)))
      (pss_cons (ps_if (PW.pt (pw_or (pt_cmpR (op_sameK (K := K) rfl hu) (pv 1) pe_str (nomark _)) (pw_or1 (pt_cmpR (op_diffK (K := K) rfl hu) (pe_lc (own := [("_law_sign", 2)]) (g := gName 2) (by rfl) sc_law_is_number.nd (pi_str (pv 1)) (blkOk_by (own := [("_law_sign", 2)]) (N := ["_law_word", "_law_figures", "_law_sign"]) (sc := defScope s_law_is_number) (by decide +kernel)) (fun _ _ _ _ _ => by exact (pg_name (i := 2) sc_law_is_number.nd rfl (by first | exact Or.inl rfl | exact Or.inr rfl))) (fun _ _ _ _ _ => by exact (pts_one (pt_cmpR op_notInS (pv 2) pe_str rfl))) (fun _ _ _ _ _ => by exact (pv 2))) (pe_lstN pa_nil) (nomark _))))) (pss_one (ps_ret pe_bl)) pss_nil)
      (pss_one (ps_ret (pe_or (pe_cmpR (op_sameK (K := K) rfl hu) (pv 0) pe_str (nomark _)) (pe_one (pe_cmpR (op_diffK (K := K) rfl hu) (pe_ix (ix_seqK (K := K) rfl) (pv 1) pe_int (fun _ _ => rfl)) pe_str (nomark _)))))))), ?_⟩
    with_reducible refine seqU ?_
    with_reducible refine setU ?_
    have cd := cut_dash t
    suffices go : ∀ d : Str, d = digitsOf t → tSeq _ _ _ [some (.str t), some (.str d), none] H by
      refine ⟨_, rfl, _, rfl, t, rfl, by rw [sizeLine_eq]; omega, .inl ⟨rfl, _, rfl, ?_⟩⟩
      refine ite2 (fun c => ?_) (fun c => ?_)
      · rw [if_pos c] at cd
        refine ⟨_, rfl, _, rfl, t, rfl, by rw [sizeLine_eq]; omega, ?_⟩
        exact go _ cd
      · rw [if_neg c] at cd
        refine ⟨_, rfl, ?_⟩
        exact go _ cd
    intro d hd
    have ld : d.length ≤ 600 := by rw [hd]; exact Nat.le_trans (digits_le t) lt
    have sod : PyData.strOk d = true := strOk_iff.mpr fun c hc => by
      rw [hd] at hc
      unfold digitsOf at hc
      split at hc
      · rw [tl_cut1] at hc
        exact strOk_iff.mp so c (List.mem_of_mem_drop hc)
      · exact strOk_iff.mp so c hc
    have ew : wholeText t = (if (d = "" ∨ figs d = false) then false else (decide (t = "0") || !Txt.startswith d "0")) := by
      unfold wholeText
      rw [← hd]
      have di := dig_iff d
      rw [← figs_iff] at di
      cases b : (Txt.isascii d && Txt.isdigit d) with
      | false =>
        rw [if_pos (by rw [← Bool.not_and, b]; rfl), if_pos]
        rcases Classical.em (d = "") with e | e
        · exact .inl e
        · refine .inr (Bool.eq_false_iff.mpr fun f => ?_)
          have := di.mpr ⟨f, fun q => e (nil_empty q)⟩
          rw [b] at this
          cases this
      | true =>
        obtain ⟨f, n⟩ := di.mp b
        rw [if_neg (by rw [← Bool.not_and, b]; decide), if_neg]
        rintro (e | e)
        · rw [e] at n
          exact n (by decide +kernel)
        · rw [f] at e
          cases e
    refine nxwU ?_
    with_reducible refine seqU ?_
    with_reducible refine ifU ?_
    with_reducible refine torU ?_
    refine ⟨_, rfl, .inl ⟨rfl, _, rfl, ?_⟩⟩
    refine ite2 (fun c => ?_) (fun c => ?_)
    · have e : d = "" := V.str.inj (of_decide_eq_true c)
      refine ite2 (fun _ => ?_) (fun z => absurd rfl z)
      with_reducible refine retU ?_
      have z := k H fun _ _ z => z
      rw [ew, if_pos (.inl e)] at z
      exact z
    have ne : d ≠ "" := fun e => c (decide_eq_true (by rw [e]))
    refine signs_ok (t := d) rfl (by show 2 < 3; decide) ld sod fun H1 s1 => ?_
    refine ite2 (fun c2 => ?_) (fun c2 => ?_)
    · have e : figs d = false := by
        cases f : figs d with
        | false => rfl
        | true => rw [f] at c2; cases c2
      with_reducible refine retU ?_
      have z := k H1 s1
      rw [ew, if_pos (.inr e)] at z
      exact z
    have ef : figs d = true := by
      cases f : figs d with
      | true => rfl
      | false => rw [f] at c2; exact absurd rfl c2
    rw [if_neg (by rintro (e | e); exact ne e; rw [ef] at e; cases e)] at ew
    refine nxwU ?_
    with_reducible refine retU ?_
    have z := k H1 s1
    rw [ew] at z
    refine ⟨_, rfl, .inl ⟨rfl, _, rfl, ?_⟩⟩
    refine ite2 (fun c3 => ?_) (fun c3 => ?_)
    · have e : t = "0" := V.str.inj (of_decide_eq_true c3)
      rw [decide_eq_true e] at z
      exact z
    · have e : t ≠ "0" := fun e => c3 (decide_eq_true (by rw [e]))
      rw [decide_eq_false e, Bool.false_or] at z
      cases hd : tl d with
      | nil => exact absurd (nil_empty hd) ne
      | cons c0 cs =>
        have cps : d.cps.toList = c0 :: cs := hd
        refine ⟨_, rfl, .inr (.inr ⟨d, 0, c0, rfl, rfl, by rw [sizeLine_eq]; omega, by rw [cps]; exact atI_nat (j := 0) rfl, .inl ⟨rfl, ?_⟩⟩)⟩
        have s0 : Txt.startswith d "0" = (c0 == 48) := starts1 hd (by decide +kernel)
        have e0 : decide (V.str ⟨#[c0]⟩ = V.str "0") = (c0 == 48) := by
          have t0 : tl ("0" : Str) = [48] := by decide +kernel
          by_cases q : c0 = 48
          · subst q
            have : (⟨#[48]⟩ : Str) = "0" := str_ext t0.symm
            rw [decide_eq_true (by rw [this])]
            rfl
          · rw [beq_false_of_ne q]
            refine decide_eq_false fun y => q ?_
            have y2 := congrArg tl (V.str.inj y)
            rw [t0] at y2
            exact (List.cons.inj y2).1
        rw [e0, ← s0]
        exact z
end
end L2.K19
set_option Elab.async false
set_option linter.all false
set_option maxRecDepth 100000
set_option maxHeartbeats 4000000
/-! [x for x in xs if p(x)], the xs tuples, where p may make objects. -/
namespace L2.RV
open PySem PySem.Spec PyProof.Rows
theorem same_up {H H' : Hp} {D : Addr} {o : HO} (s : Same H H') (n : H D = none) : Same H (upd H' D o) := fun b u z => by
  rw [upd_ne (ne_of_none z n)]
  exact s _ _ z
theorem lc_selG {K : PySem.W.Frag} {ti : TE} {tt : TT} {j : Nat} {σ : L2.St} {H : Hp} {Q : VK} {a : Addr} {bs : List Addr} {ks : List (List L2.Key)} (p : List L2.Key → Bool) (hq : Sq K H a (bs.map V.ref)) (kd : Keyed H bs ks) (small : bs.length ≤ sizeLine) (hj : j < σ.length) (hi : ∀ R : V → Hp → Prop, R (.ref a) H → ti σ H R)
    (ht : ∀ b k, k ∈ ks → H b = some (.tup (k.map kV)) → ∀ (H1 : Hp) (Q' : Bool → Hp → Prop), Same H H1 → (∀ H2, Same H1 H2 → Q' (p k) H2) → tt ((wipe σ [j]).set j (some (.ref b))) H1 Q')
    (k : ∀ D cs H', H D = none → Same H H' → H' D = some (.lst (cs.map V.ref)) → Keyed H cs (ks.filter p) → Q (.ref D) H') {vs : List Nat} (evs : vs = [j] := by rfl) : tLc (iSq K ti) (gName j) tt (tVar j) vs σ H Q := by
  subst evs
  refine hi _ ⟨a, bs.map V.ref, rfl, hq, fun J wk D hD => ?_⟩
  refine lc_it wk (fun i H' => Same H H' ∧ ∃ cs, H' D = some (.lst (cs.map V.ref)) ∧ Keyed H cs ((ks.take i).filter p)) ⟨same_new hD, [], upd_same, by rw [List.take_zero]; exact ⟨rfl, fun i b k hb _ => by simp at hb⟩⟩ (fun i H' _ e => .of_same e.1) (fun i x H1 H2 lt e y => ?_) (fun H' e => ?_)
  · obtain ⟨sm, cs, hDl, kc⟩ := e
    obtain ⟨rfl, hx⟩ := y
    obtain ⟨b, hb, rfl⟩ : ∃ b, bs[i]? = some b ∧ V.ref b = x := by
      rw [List.getElem?_map] at hx
      exact Option.map_eq_some_iff.mp hx
    have lb := (List.getElem?_eq_some_iff.mp hb).1
    have lk : i < ks.length := kd.1 ▸ lb
    have hk : ks[i]? = some ks[i] := List.getElem?_eq_getElem lk
    have hbk := kd.2 i b _ hb hk
    have mem : ks[i] ∈ ks := List.getElem_mem lk
    have lw : j < (wipe σ [j]).length := by rw [wipe_length]; exact hj
    refine ⟨wipe_set1 σ j _, ht b _ mem hbk _ _ sm fun H3 s3 => ?_⟩
    rw [take_snoc hk, List.filter_append]
    cases c : p ks[i] with
    | false =>
      rw [if_neg (by decide)]
      have e : [ks[i]].filter p = [] := by simp [c]
      rw [e, List.append_nil]
      exact ⟨sm.trans s3, cs, s3 _ _ hDl, kc⟩
    | true =>
      rw [if_pos rfl]
      have e : [ks[i]].filter p = [ks[i]] := by simp [c]
      rw [e]
      refine ⟨.ref b, List.getElem?_set_self lw, cs.map V.ref, s3 _ _ hDl, ?_, same_up (sm.trans s3) hD, cs ++ [b], ?_, kc.snoc hbk⟩
      · have y := List.length_filter_le p (ks.take i)
        rw [List.length_take] at y
        have z := kc.1
        rw [List.length_map]
        omega
      · rw [upd_same, List.map_append]
        rfl
  · obtain ⟨sm, cs, hDl, kc⟩ := e
    have e2 : (bs.map V.ref).length = ks.length := by rw [List.length_map]; exact kd.1
    rw [e2, List.take_length] at kc
    exact k D cs H' hD sm hDl kc
end L2.RV
set_option Elab.async false
set_option linter.all false
set_option maxRecDepth 100000
set_option maxHeartbeats 4000000
/-! l.index(x), with K named. -/
namespace L2.RV
open PySem PySem.Spec PyProof.Rows
theorem mt_indexK {X : Cx} {K : PySem.W.Frag} (hK : X.K = K) (hu : X.A.units + 65 < cLine) : MtR X "list.index" (rIndexD K) := hK ▸ mt_indexD hu
section
variable {X : Cx} {K : PySem.W.Frag} {o e : Expr} {es : List Expr} {to : TE} {t : TA} {name : Str} {apos cpos : Pos} {T id : String} {r : V → List V → Hp → VK → Prop}
theorem pe_bmK (hK : X.K = K) (pa : PlainAttrs T) (slot : Slot T name id) (hty : typeOf (.builtin id) = pure (.type "method_descriptor")) (hm : MtR X id r) (ho : PE X o to) (ha : PA X (e :: es) t)
    (hbase : attributeBase o name X.env (eval o X.env) = eval o X.env := by rfl)
    (hfew : ((backTo cpos (starEach (e :: es) X.env)).all (fun x => !x.1) && (backToKw cpos (keywordEach [] X.env)).all (fun x => x.1.isSome)
      && decide ((e :: es).length + ([] : List Keyword).length + (if ([] : List Keyword).isEmpty then 0 else 1) < 30)) = true := by rfl)
    (hline : (apos.endLine == cpos.line) = true := by rfl) (hs : starEach (e :: es) X.env = (false, eval e X.env) :: starEach es X.env := by rfl) (hplain : (backTo cpos (starEach es X.env)).any (·.1) = false := by rfl) :
    PE X (.Call (.Attribute o name apos) (e :: es) [] cpos) (tBM K T r to t) := by
  subst hK
  exact pe_bm pa slot hty hm ho ha hbase hfew hline hs hplain
def rListOf (K : PySem.W.Frag) : List V → Hp → VK → Prop := fun xs H Q => ∃ p ys, xs = [.ref p] ∧ (SqL K H p ys ∨ SqT K H p ys) ∧ ∀ l, H l = none → Q (.ref l) (upd H l (.lst ys))
theorem call_listK (hK : X.K = K) : CallR X (.type "list") (rListOf K) := by
  subst hK
  exact call_list_of
end
end L2.RV
set_option Elab.async false
set_option linter.all false
set_option maxRecDepth 100000
set_option maxHeartbeats 4000000
/-! The law's own look at a place. -/
namespace L2.K19
open PySem PySem.Spec PyProof.Rows L2.RV NumText TL
/-- int(word) of a number's word -/
theorem whole_int {x : Str} (h : wholeText x = true) (l : x.length ≤ 640) : PySem.intText? x = some (wholeNum x) := by
  obtain ⟨⟨ad, c0, r0, e0, _⟩, _⟩ := (whole_iff x).mp h
  cases hx : tl x with
  | nil =>
    rw [(digits_nil hx).1, hx] at e0
    cases e0
  | cons c cs =>
    by_cases z : c = 45
    · subst z
      obtain ⟨e, s⟩ := digits_neg hx
      unfold wholeNum
      rw [if_pos s]
      rw [e] at ad e0 ⊢
      exact intText_neg hx ad (by rw [e0]; exact fun q => nomatch q) (by omega)
    · obtain ⟨e, s⟩ := digits_pos hx z
      unfold wholeNum
      rw [if_neg (by rw [s]; decide)]
      rw [e] at ad e0 ⊢
      exact intText_digits ad (by show tl x ≠ []; rw [e0]; exact fun q => nomatch q) (by omega)
def dayW (t : Str) : Int := if (wholeText t && decide ((t.length : Int) < 3)) = true then wholeNum t else -1
/-- _law_day(word) -/
def spLDay : Sp := fun vs H Q _ => ∃ (t : Str), vs = [.str t] ∧ t.length ≤ 600 ∧ PyData.strOk t = true ∧ ∀ H', Same H H' → Q (.int (dayW t)) H'
/-- the words of a page in a list -/
structure WL (H : Hp) (q : Addr) (ws : List Str) : Prop where
  at_ : H q = some (.lst (ws.map V.str))
  few : ws.length ≤ 1000
  short : ∀ x, x ∈ ws → x.length ≤ 600
  ok : ∀ x, x ∈ ws → PyData.strOk x = true
theorem WL.same {H H' : Hp} {q : Addr} {ws : List Str} (x : WL H q ws) (s : Same H H') : WL H' q ws := ⟨s _ _ x.at_, x.few, x.short, x.ok⟩
/-- the word that tells no place from n on, of the two from i on -/
def placeW (pl : List Pl) (ws : List Str) (i n : Nat) : Option Nat := match ws[i]? with
  | none => some i
  | some y => if ((pl.drop n).any fun p => decide (p.1 = y)) = true then
      match ws[i + 1]? with
      | none => some (i + 1)
      | some z => if isP (pl.drop n) y z = true then none else some (i + 1)
    else some i
def optV : Option Nat → V
  | none => .non
  | some i => .int i
theorem row_place_iff {pl : List Pl} {ws : List Str} {i n : Nat} {x : Str} (ex : ws[i]? = some x) (hx : isW x = true) : (∀ e, placeW pl ws (i + 1) n = some e → rowAt pl ws i n = .inl e) ∧
    (placeW pl ws (i + 1) n = none → ∃ y z, ws[i + 1]? = some y ∧ ws[i + 2]? = some z ∧ isP (pl.drop n) y z = true ∧ rowAt pl ws i n = .inr ((y, (wholeNum z).toNat), wholeNum x)) := by
  unfold placeW rowAt
  rw [ex]
  dsimp only
  rw [if_pos hx]
  have e2i : i + 1 + 1 = i + 2 := rfl
  rw [e2i]
  cases e1 : ws[i + 1]? with
  | none => exact ⟨fun e h => by rw [← Option.some.inj h], fun h => nomatch h⟩
  | some y =>
    dsimp only
    by_cases c1 : ((pl.drop n).any fun p => decide (p.1 = y)) = true
    · rw [if_pos c1, if_pos c1]
      cases e2 : ws[i + 2]? with
      | none => exact ⟨fun e h => by rw [← Option.some.inj h], fun h => nomatch h⟩
      | some z =>
        dsimp only
        by_cases c2 : isP (pl.drop n) y z = true
        · rw [if_pos c2, if_pos c2]
          exact ⟨fun e h => (nomatch h), fun _ => ⟨y, z, rfl, rfl, c2, rfl⟩⟩
        · rw [if_neg c2, if_neg c2]
          exact ⟨fun e h => by rw [← Option.some.inj h], fun h => nomatch h⟩
    · rw [if_neg c1, if_neg c1]
      exact ⟨fun e h => by rw [← Option.some.inj h], fun h => nomatch h⟩
/-- a day of a shape is told by the law's day of its word -/
theorem day_iff {e d : Nat} (h : e < d) (d8 : d ≤ 8) (z : Str) : ((e : Int) = dayW z) ↔ z = intS (e : Int) := by
  unfold dayW
  constructor
  · intro q
    split at q
    · rename_i c
      obtain ⟨a, _⟩ := Bool.and_eq_true_iff.mp c
      rw [q]
      exact whole_back a
    · omega
  · intro q
    subst q
    have lw : (intS (e : Int)).length ≤ 1 + 1 := int_lenK (by decide) (by rw [Int.natAbs_natCast]; omega)
    rw [(int_whole _).1, (int_whole _).2, if_pos (by
      rw [Bool.true_and]
      exact decide_eq_true (by omega))]
def plI (x : Str) (e : Int) : PyData := .tuple [.str x, .int e]
theorem eqv_plI (a b : Str) (i j : Int) : PyData.eqv (plI a i) (plI b j) = (decide (a = b) && decide (i = j)) := by
  unfold plI
  simp only [PyData.eqv, PyData.eqvAll, Bool.and_true]
  rw [show (a == b) = decide (a = b) from rfl, show (i == j) = decide (i = j) from rfl]
theorem shaped_plI {x : Str} (h : PyData.strOk x = true) (e : Int) : SeqAt.shaped (plI x e) = true := by
  have a : PyData.canLay0 (plI x e) = true := by simp [PyData.canLayAll0, PyData.canLay0, plI, h]
  have d : (plI x e).depth ≤ 64 := by simp [PyData.depth, PyData.depthAll, plI]
  unfold SeqAt.shaped
  rw [a, decide_eq_true d]
  rfl
theorem eqv_pl (p q : Pl) : PyData.eqv (plData p) (plData q) = decide (p = q) := by
  refine (eqv_plI p.1 q.1 p.2 q.2).trans ?_
  by_cases h : p = q
  · subst h
    rw [decide_eq_true rfl, decide_eq_true rfl, decide_eq_true rfl]
    rfl
  · rw [decide_eq_false h]
    by_cases h1 : p.1 = q.1
    · rw [decide_eq_true h1, Bool.true_and]
      exact decide_eq_false fun e => h (Prod.ext h1 (by omega))
    · rw [decide_eq_false h1]
      rfl
theorem index_pl {K : PySem.W.Frag} {H : Hp} {Q : VK} {l b : Addr} {bs : List Addr} {ps : List Pl} {p : Pl} (el : H l = some (.lst (bs.map V.ref))) (kd : RV.Keyed H bs (ps.map plK)) (hb : H b = some (.tup (plV p))) (names : ∀ p ∈ ps, PyData.strOk p.1 = true) (hp : p ∈ ps) (k : Q (.int ((ps.idxOf p : Nat) : Int)) H) : rIndexD K (.ref l) [.ref b] H Q := by
  have li := List.idxOf_lt_length_of_mem hp
  have gi : ps[ps.idxOf p]? = some p := by
    rw [List.getElem?_eq_getElem li]
    exact congrArg some (List.getElem_idxOf li)
  refine ⟨l, .ref b, plData p, ps.map plData, ps.idxOf p, plData p, rfl, rfl, .lst (SqL.of el) (dp_places kd), .tup (SqT.of hb) (.cons (.str p.1) (.cons (.int _) .nil)), shaped_plist names, shaped_plI (names p hp) _, by rw [List.getElem?_map, gi]; rfl, by rw [eqv_pl]; exact decide_eq_true rfl, fun m z' hm hz => ?_, k⟩
  rw [List.getElem?_map] at hz
  obtain ⟨q, hq, rfl⟩ := Option.map_eq_some_iff.mp hz
  rw [eqv_pl]
  refine decide_eq_false fun e => ?_
  subst e
  have l2 := (List.getElem?_eq_some_iff.mp hq).1
  have e2 := (List.getElem?_eq_some_iff.mp hq).2
  have := List.not_of_lt_findIdx (p := (· == q)) (xs := ps) hm
  rw [e2] at this
  rw [beq_self_eq_true] at this
  cases this
/-- list(shape.places).index(place) -/
theorem idx_places {K : PySem.W.Frag} {H H3 : Hp} {σ : L2.St} {Q : VK} {sa dxs t1 t2 t3 : Addr} {bs : List Addr} {ks : List Str} {d i : Nat} {p : Pl} {te : TE} (kS : Cls K (He.ga K "Shape")) (aS : NoAttr K (He.ga K "Shape") "places") (c : ShapeC K H sa dxs t1 t2 t3 bs ks d) (s3 : Same H H3) (v : σ[i]? = some (some (.ref sa))) (names : ∀ p ∈ placesOf ks d, PyData.strOk p.1 = true)
    (ht : ∀ R H4, Same H3 H4 → (∀ H5, Same H4 H5 → ∀ b, H5 b = some (.tup (plV p)) → R (.ref b) H5) → te σ H4 R) (hp : p ∈ placesOf ks d) (k : ∀ H5, Same H3 H5 → Q (.int (((placesOf ks d).idxOf p : Nat) : Int)) H5) :
    tBM K "list" (rIndexD K) (tCB (rListOf K) (tCons (tFld K (tVar i) "places") tNil)) (tCons te tNil) σ H3 Q := by
  refine ⟨_, v, sa, _, _, _, _, rfl, s3 _ _ c.obj, kS, aS, rfl, t2, bs.map V.ref, rfl, .inr (.inl ?_), fun l nl => ⟨.inl ⟨rfl, _, SqL.of upd_same⟩, ?_⟩⟩
  · exact c.places.imp (fun z => s3 _ _ z) fun ⟨od, z⟩ => ⟨od, s3 _ _ z⟩
  have s4 := same_new (o := .lst (bs.map V.ref)) nl
  refine ht _ _ s4 fun H5 s5 b hb => ?_
  have s05 := (s3.trans s4).trans s5
  exact index_pl (s5 _ _ upd_same) (c.keyed.same s05) hb names hp (k _ (s4.trans s5))
theorem any_ext {l : List Pl} {f g : Pl → Bool} (h : ∀ p ∈ l, f p = g p) : l.any f = l.any g := by
  induction l with
  | nil => rfl
  | cons z r ih => rw [List.any_cons, List.any_cons, h z List.mem_cons_self, ih fun p hp => h p (List.mem_cons_of_mem _ hp)]
theorem filter_from {pl : List Pl} (nd : pl.Nodup) (n : Nat) : (pl.map plK).filter (fun key => decide (n ≤ pl.idxOf (plOf key))) = (pl.drop n).map plK := by
  rw [List.filter_map]
  congr 1
  rw [← sub_filter (List.drop_sublist n pl) nd]
  refine List.filter_congr fun p hp => ?_
  show decide (n ≤ pl.idxOf (plOf (plK p))) = _
  rw [plOf_plK]
  refine decide_eq_decide.mpr ⟨fun h => ?_, idx_from nd⟩
  have li := List.idxOf_lt_length_of_mem hp
  refine List.mem_iff_getElem.mpr ⟨pl.idxOf p - n, by rw [List.length_drop]; omega, ?_⟩
  rw [List.getElem_drop]
  have e : n + (pl.idxOf p - n) = pl.idxOf p := by omega
  simp only [e]
  exact List.getElem_idxOf li
/-- [place for place in places if ..] == [] -/
theorem none_left {K : PySem.W.Frag} {H : Hp} {σ : L2.St} {Q : Bool → Hp → Prop} {L : Addr} {es : List Addr} {ps : List Pl} {tt : TT} {i j : Nat} (p : Pl → Bool) (v : σ[i]? = some (some (.ref L))) (hij : i ≠ j) (eL : H L = some (.lst (es.map V.ref))) (kd : RV.Keyed H es (ps.map plK)) (small : es.length ≤ 1000) (hj : j < σ.length) (names : ∀ p ∈ ps, PyData.strOk p.1 = true)
    (ht : ∀ b z, z ∈ ps → ∀ (H1 : Hp) (Q' : Bool → Hp → Prop), Same H H1 → H1 b = some (.tup (plV z)) → (∀ H2, Same H1 H2 → Q' (p z) H2) → tt ((wipe σ [j]).set j (some (.ref b))) H1 Q')
    (k : ∀ H', Same H H' → Q (!ps.any p) H') {vs : List Nat} (evs : vs = [j] := by rfl) : tTest (tOp (rSame K) (tLc (iSq K (tVar i)) (gName j) tt (tVar j) vs) (tLstN tNil)) σ H Q := by
  with_reducible refine testU ?_
  with_reducible refine opU ?_
  refine lc_selG (j := j) (fun key => p (plOf key)) (.inr (SqL.of eL)) kd (by rw [sizeLine_eq]; omega) hj (fun R r => ⟨_, v, r⟩) (fun b key hk hb H1 Q' s1 q => ?_) (fun D cs H1 hD s1 eD kc => ?_) evs
  · obtain ⟨z, hz, rfl⟩ := List.mem_map.mp hk
    refine ht b z hz H1 Q' s1 (s1 _ _ hb) fun H2 s2 => ?_
    have := q H2 s2
    rw [plOf_plK] at this
    exact this
  have ef : (ps.map plK).filter (fun key => p (plOf key)) = (ps.filter p).map plK := by
    rw [List.filter_map]
    exact congrArg (List.map plK) (List.filter_congr fun z _ => congrArg p (plOf_plK z))
  rw [ef] at kc
  refine ⟨(by decide : (0 : Nat) ≤ sizeLine), fun l nl _ => .inr ⟨.list ((ps.filter p).map plData), .list [], ?_, ?_, ?_, ?_, _, rfl, ?_⟩⟩
  · exact .lst (SqL.of (same_new nl _ _ eD)) (dp_places (kc.same (s1.trans (same_new nl))))
  · exact .lst (SqL.of upd_same) .nil
  · exact shaped_plist fun z hz => names z (List.mem_filter.mp hz).1
  · exact shaped_plist (ps := []) fun _ h => nomatch h
  · rw [no_places]
    have e : ∀ l : List Pl, (l.filter p).isEmpty = !l.any p := by
      intro l
      induction l with
      | nil => rfl
      | cons z r ih =>
        rw [List.filter_cons, List.any_cons]
        cases c : p z with
        | true => rfl
        | false =>
          rw [if_neg (by decide), ih]
          rfl
    rw [e ps]
    exact k _ (s1.trans (same_new nl))
/-- _law_place_wrong(shape, words, i, n - 1) -/
def spPlaceWrong (K : PySem.W.Frag) : Sp := fun vs H Q _ => ∃ (s q : Addr) (ws : List Str) (i n : Nat) (ks : List Str) (d : Nat), vs = [.ref s, .ref q, .int i, .int ((n : Int) - 1)] ∧ ShapeAt K H s ks d ∧ WL H q ws ∧ n ≤ (placesOf ks d).length ∧ i ≤ 1001 ∧
  ∀ H', Same H H' → Q (optV (placeW (placesOf ks d) ws i n)) H'
section
variable {P : Program} {w : World} {K : PySem.W.Frag} {mg : Str → Option Value} {base : Heap} {fd : FuncData}
theorem ok_law_day (T : Top w K mg) (D_law_is_number : Def P w K mg base "_law_is_number" 1 ["_law_word"] spLIsNum) (F : Fn K "_law_day" s_law_day fd) : FnOk P w K mg base CX0 2 (He.ga K "_law_day") fd ["_law_word"] spLDay := by
  refine F.ok sc_law_day (fun vs H Q E h => ?_) (fun cdv A outer s H vs Q E hr h => ?_)
  · obtain ⟨t, rfl, _⟩ := h
    rfl
  · obtain ⟨t, rfl, lt, so, k⟩ := h
    have hu := hr.units
    refine ⟨_, PSs.nox (pss_one (ps_ret (pe_ifExp (PW.pt (pw_and (pt_val (pe_callD D_law_is_number (hr.mono (by decide)) rfl (pa_cons (pv 0) pa_nil))) (pw_and1 (pt_cmpR op_lt (pe_callB (call_lenK (K := K) rfl) rfl T.n_len (by decide +kernel) (pa_cons (pv 0) pa_nil)) pe_int (nomark _))))) (pe_callTy call_int_str rfl T.n_int (by decide +kernel) (pa_cons (pv 0) pa_nil)) (pe_un un_neg pe_int)))), ?_⟩
    unfold dayW at k
    refine ⟨_, rfl, t, rfl, lt, so, fun H1 s1 => ⟨_, rfl, ?_⟩⟩
    have z := k H1 s1
    cases c : wholeText t with
    | false =>
      rw [c, Bool.false_and, if_neg (by decide)] at z
      exact ⟨_, rfl, z⟩
    | true =>
      rw [c, Bool.true_and] at z
      refine ⟨_, rfl, _, _, rfl, ⟨by rw [sizeLine_eq]; omega, rfl⟩, _, _, rfl, rfl, _, rfl, ?_⟩
      refine ite2 (fun c2 => ?_) (fun c2 => ?_)
      · rw [if_pos c2] at z
        exact ⟨_, rfl, t, _, rfl, whole_int c (by omega), by omega, z⟩
      · rw [if_neg c2] at z
        exact ⟨_, rfl, z⟩
theorem ok_law_place_wrong (T : Top w K mg) (D_law_day : Def P w K mg base "_law_day" 2 ["_law_word"] spLDay) (F : Fn K "_law_place_wrong" s_law_place_wrong fd) : FnOk P w K mg base CX0 3 (He.ga K "_law_place_wrong") fd ["_law_shape_here", "_law_words", "_law_at", "_law_last"] (spPlaceWrong K) := by
  refine F.ok sc_law_place_wrong (fun vs H Q E h => ?_) (fun cdv A outer s H vs Q E hr h => ?_)
  · obtain ⟨sa, q, ws, i, n, ks, d, rfl, _⟩ := h
    rfl
  · obtain ⟨sa, q, ws, i, n, ks, d, rfl, s0, wl, hn, hi, k⟩ := h
    have hu := hr.units
    have hux : (A.deeper (envOfC "_law_place_wrong" (defScope s_law_place_wrong) s.heap.objs.size (He.ga K "_law_place_wrong") cdv)).units + 65 < cLine := by
      have := hr.un
      omega
    refine ⟨_, PSs.nox (pss_cons (ps_setLc (i := 4) (own := [("_law_place", 5)]) (g := gName 5) (by rfl) sc_law_place_wrong.nd rfl rfl (sw_true rfl rfl rfl (by decide +kernel)) (pi_sqK (K := K) rfl (pe_fldK (K := K) rfl (pv 0) rfl)) (blkOk_by (own := [("_law_place", 5)]) (N := ["_law_shape_here", "_law_words", "_law_at", "_law_last", "_law_some_here", "_law_place"]) (sc := defScope s_law_place_wrong) (by decide +kernel)) (fun _ _ _ _ _ => by exact (pg_name (i := 5) sc_law_place_wrong.nd rfl (by first | exact Or.inl rfl | exact Or.inr rfl))) (fun _ _ _ _ _ => by exact (pts_one (pt_cmpR op_gt (pe_bmK (K := K) rfl PySem.F.plainAttrs_list PySem.F.slot_list_index PySem.F.type_list_index (mt_indexK (K := K) rfl hux) (pe_callTy (call_listK (K := K) rfl) rfl T.n_list (by decide +kernel) (pa_cons (pe_fldK (K := K) rfl (pv 0) rfl) pa_nil)) (pa_cons (pv 5) pa_nil)) (pv 3) (nomark _)))) (fun _ _ _ _ _ => by exact (pv 5)))
      (pss_cons (ps_if (PW.pt (pw_or (pt_cmpR op_ge (pv 2) (pe_callB (call_lenK (K := K) rfl) rfl T.n_len (by decide +kernel) (pa_cons (pv 1) pa_nil)) (nomark _)) (pw_or1 (pt_cmpR (op_sameK (K := K) rfl hu) (pe_lc (own := [("_law_place", 5)]) (g := gName 5) (by rfl) sc_law_place_wrong.nd (pi_sqK (K := K) rfl (pv 4)) (blkOk_by (own := [("_law_place", 5)]) (N := ["_law_shape_here", "_law_words", "_law_at", "_law_last", "_law_some_here", "_law_place"]) (sc := defScope s_law_place_wrong) (by decide +kernel)) (fun _ _ _ _ _ => by exact (pg_name (i := 5) sc_law_place_wrong.nd rfl (by first | exact Or.inl rfl | exact Or.inr rfl))) (fun _ _ _ _ _ => by exact (pts_one (pt_cmpR (op_sameK (K := K) rfl hu) (pe_ix (ix_seqK (K := K) rfl) (pv 5) pe_int (fun _ _ => rfl)) (pe_ix (ix_seqK (K := K) rfl) (pv 1) (pv 2) (fun _ _ => rfl)) (nomark _)))) (fun _ _ _ _ _ => by exact (pv 5))) (pe_lstN pa_nil) (nomark _))))) (pss_one (ps_ret (pv 2))) pss_nil)
      (pss_cons (ps_if (PW.pt (pw_or (pt_cmpR op_ge (pe_op op_plus (pv 2) pe_int) (pe_callB (call_lenK (K := K) rfl) rfl T.n_len (by decide +kernel) (pa_cons (pv 1) pa_nil)) (nomark _)) (pw_or1 (pt_cmpR (op_sameK (K := K) rfl hu) (pe_lc (own := [("_law_place", 5)]) (g := gName 5) (by rfl) sc_law_place_wrong.nd (pi_sqK (K := K) rfl (pv 4)) (blkOk_by (own := [("_law_place", 5)]) (N := ["_law_shape_here", "_law_words", "_law_at", "_law_last", "_law_some_here", "_law_place"]) (sc := defScope s_law_place_wrong) (by decide +kernel)) (fun _ _ _ _ _ => by exact (pg_name (i := 5) sc_law_place_wrong.nd rfl (by first | exact Or.inl rfl | exact Or.inr rfl))) (fun _ _ _ _ _ => by exact (pts_one (pt_cmpR (op_sameK (K := K) rfl hu) (pv 5) (pe_tup (pa_cons (pe_ix (ix_seqK (K := K) rfl) (pv 1) (pv 2) (fun _ _ => rfl)) (pa_cons (pe_callD D_law_day (hr.mono (by decide)) rfl (pa_cons (pe_ix (ix_seqK (K := K) rfl) (pv 1) (pe_op op_plus (pv 2) pe_int) (fun _ _ => rfl)) pa_nil)) pa_nil))) (nomark _)))) (fun _ _ _ _ _ => by exact (pv 5))) (pe_lstN pa_nil) (nomark _))))) (pss_one (ps_ret (pe_op op_plus (pv 2) pe_int))) pss_nil)
      (pss_one (ps_ret pe_non))))), ?_⟩
    obtain ⟨dxs, t1, t2, t3, bs, c⟩ := s0.core
    have l36 : (placesOf ks d).length ≤ 36 := by rw [length_places]; exact s0.ok.few
    have lb : bs.length ≤ 36 := by rw [c.len]; exact l36
    have ndp := nodup_places d s0.ok.nd
    have names : ∀ p ∈ placesOf ks d, PyData.strOk p.1 = true := fun p hp => (name_free (s0.ok.names _ (place_name hp).1)).2.1
    with_reducible refine seqU ?_
    with_reducible refine setU ?_
    refine lc_selG (j := 5) (fun key => decide (n ≤ (placesOf ks d).idxOf (plOf key))) (.inl (.inl c.places)) c.keyed (by rw [sizeLine_eq]; omega) (by show 5 < 6; decide) (fun R r => ⟨_, rfl, sa, _, _, _, _, rfl, c.obj, T.k_Shape, T.a_Shape_places, rfl, r⟩) (fun b key hk hb H3 Q' s3 q => ?_) fun L es H1 hL s1 eL kes => ?_
    · obtain ⟨p, hp, rfl⟩ := List.mem_map.mp hk
      refine idx_places (p := p) T.k_Shape T.a_Shape_places c s3 rfl names (fun R H4 s4 r => ⟨_, rfl, r H4 (fun _ _ z => z) b (s4 _ _ (s3 _ _ hb))⟩) hp fun H5 s5 => ⟨_, rfl, _, _, rfl, rfl, _, rfl, ?_⟩
      have e : decide ((n : Int) - 1 < (((placesOf ks d).idxOf p : Nat) : Int)) = decide (n ≤ (placesOf ks d).idxOf (plOf (plK p))) := by
        rw [plOf_plK]
        exact decide_eq_decide.mpr ⟨fun h => by omega, fun h => by omega⟩
      rw [e]
      exact q H5 s5
    rw [filter_from ndp] at kes
    refine nxwU ?_
    show tSeq _ _ _ [some (.ref sa), some (.ref q), some (.int i), some (.int ((n : Int) - 1)), some (.ref L), none] H1
    have wl1 := wl.same s1
    have kes1 := kes.same s1
    have lq : ∀ {H2}, Same H1 H2 → LenV K (.ref q) H2 (ws.map V.str).length := fun s2 => len_sq (.inr (SqL.of (wl1.same s2).at_))
    have les : es.length ≤ 1000 := by
      have := kes.1
      rw [List.length_map, List.length_drop] at this
      omega
    have nms : ∀ p ∈ (placesOf ks d).drop n, PyData.strOk p.1 = true := fun p hp => names p (List.mem_of_mem_drop hp)
    have wlen : (ws.map V.str).length = ws.length := List.length_map ..
    unfold placeW at k
    with_reducible refine seqU ?_
    with_reducible refine ifU ?_
    with_reducible refine torU ?_
    refine ⟨_, rfl, _, rfl, _, _, rfl, lq fun _ _ z => z, _, _, rfl, rfl, _, rfl, ?_⟩
    rw [wlen]
    cases e1 : ws[i]? with
    | none =>
      rw [e1] at k
      have li := List.getElem?_eq_none_iff.mp e1
      rw [decide_eq_true (show ((ws.length : Nat) : Int) ≤ (i : Nat) by omega)]
      refine ite2 (fun _ => ?_) (fun z => absurd rfl z)
      refine ite2 (fun _ => ?_) (fun z => absurd rfl z)
      with_reducible refine retU ?_
      exact ⟨_, rfl, k _ s1⟩
    | some y =>
      rw [e1] at k
      dsimp only at k
      have li := (List.getElem?_eq_some_iff.mp e1).1
      rw [decide_eq_false (show ¬ ((ws.length : Nat) : Int) ≤ (i : Nat) by omega)]
      refine ite2 (fun z => nomatch z) (fun _ => ?_)
      have ey : ∀ {H2}, Same H1 H2 → ∀ {R : VK}, R (.str y) H2 → rIx K (.ref q) (.int i) H2 R := fun s2 R r => ix_sq (.inr (SqL.of (wl1.same s2).at_)) (atI_nat (by rw [List.getElem?_map, e1]; rfl)) r
      refine none_left (ps := (placesOf ks d).drop n) (fun p => decide (p.1 = y)) rfl (by decide) eL kes1 les (by show 5 < 6; decide) nms (fun b z hz H2 Q' s2 hb q' => ?_) (fun H2 s2 => ?_)
      · refine ⟨_, rfl, ix_sq (.inl (SqT.of hb)) (atI_nat (j := 0) rfl) ?_⟩
        refine ⟨_, rfl, _, rfl, ey s2 (.inl ⟨rfl, _, rfl, ?_⟩)⟩
        have e : decide (V.str z.1 = V.str y) = decide (z.1 = y) := decide_eq_decide.mpr ⟨fun h => V.str.inj h, fun h => by rw [h]⟩
        rw [e]
        exact q' _ fun _ _ z => z
      refine ite2 (fun c1 => ?_) (fun c1 => ?_)
      · rw [if_neg (by
          intro h
          rw [h] at c1
          cases c1)] at k
        with_reducible refine retU ?_
        exact ⟨_, rfl, k _ (s1.trans s2)⟩
      rw [if_pos (by
        cases c : ((placesOf ks d).drop n).any fun p => decide (p.1 = y) with
        | true => rfl
        | false => rw [c] at c1; exact absurd rfl c1)] at k
      refine nxwU ?_
      have eL2 := s2 _ _ eL
      have kes2 := kes1.same s2
      with_reducible refine seqU ?_
      with_reducible refine ifU ?_
      with_reducible refine torU ?_
      refine ⟨_, rfl, .inl ⟨_, _, rfl, rfl, _, rfl, _, _, rfl, lq s2, _, _, rfl, rfl, _, rfl, ?_⟩⟩
      rw [wlen]
      cases e2 : ws[i + 1]? with
      | none =>
        rw [e2] at k
        have li2 := List.getElem?_eq_none_iff.mp e2
        rw [decide_eq_true (show ((ws.length : Nat) : Int) ≤ (i : Nat) + 1 by omega)]
        refine ite2 (fun _ => ?_) (fun z => absurd rfl z)
        refine ite2 (fun _ => ?_) (fun z => absurd rfl z)
        with_reducible refine retU ?_
        exact ⟨_, rfl, .inl ⟨_, _, rfl, rfl, k _ (s1.trans s2)⟩⟩
      | some z =>
        rw [e2] at k
        dsimp only at k
        have li2 := (List.getElem?_eq_some_iff.mp e2).1
        rw [decide_eq_false (show ¬ ((ws.length : Nat) : Int) ≤ (i : Nat) + 1 by omega)]
        refine ite2 (fun z => nomatch z) (fun _ => ?_)
        have my : y ∈ ws := List.mem_of_getElem? e1
        have mz : z ∈ ws := List.mem_of_getElem? e2
        refine none_left (ps := (placesOf ks d).drop n) (fun p => decide (p.1 = y) && decide (((p.2 : Nat) : Int) = dayW z)) rfl (by decide) eL2 kes2 les (by show 5 < 6; decide) nms (fun b p hp H3 Q' s3 hb q' => ?_) (fun H3 s3 => ?_)
        · have s13 := s2.trans s3
          have ez : ∀ {H4}, Same H1 H4 → ∀ {R : VK}, R (.str z) H4 → rIx K (.ref q) (.int ((i : Nat) + 1)) H4 R := fun s4 R r => ix_sq (.inr (SqL.of (wl1.same s4).at_)) (atI_nat (j := i + 1) (by rw [List.getElem?_map, e2]; rfl)) r
          refine ⟨_, rfl, _, rfl, _, rfl, ey s13 ⟨_, rfl, _, rfl, .inl ⟨_, _, rfl, rfl, ez s13 ⟨z, rfl, wl1.short z mz, wl1.ok z mz, fun H4 s4 => ⟨(by decide : (2 : Nat) ≤ sizeLine), fun t nt => .inr ⟨plData p, plI y (dayW z), ?_, ?_, ?_, ?_, _, rfl, ?_⟩⟩⟩⟩⟩⟩
          · exact .tup (SqT.of (same_new nt _ _ (s4 _ _ hb))) (.cons (.str p.1) (.cons (.int _) .nil))
          · exact .tup (SqT.of upd_same) (.cons (.str y) (.cons (.int _) .nil))
          · exact shaped_plI (nms p hp) _
          · exact shaped_plI (wl1.ok y my) _
          · have e : PyData.eqv (plData p) (plI y (dayW z)) = (decide (p.1 = y) && decide (((p.2 : Nat) : Int) = dayW z)) := eqv_plI _ _ _ _
            rw [e]
            exact q' _ (s4.trans (same_new nt))
        have ei : (((placesOf ks d).drop n).any fun p => decide (p.1 = y) && decide (((p.2 : Nat) : Int) = dayW z)) = isP ((placesOf ks d).drop n) y z := by
          unfold isP
          refine any_ext fun p hp => ?_
          have d2 := (place_name (List.mem_of_mem_drop hp)).2
          have e := day_iff d2 s0.ok.d8 z
          congr 1
          exact decide_eq_decide.mpr (e.trans ⟨fun h => h.symm, fun h => h.symm⟩)
        rw [ei]
        refine ite2 (fun c2 => ?_) (fun c2 => ?_)
        · rw [if_neg (by
            intro h
            rw [h] at c2
            cases c2)] at k
          with_reducible refine retU ?_
          exact ⟨_, rfl, .inl ⟨_, _, rfl, rfl, k _ ((s1.trans s2).trans s3)⟩⟩
        · rw [if_pos (by
            cases c : isP ((placesOf ks d).drop n) y z with
            | true => rfl
            | false => rw [c] at c2; exact absurd rfl c2)] at k
          refine nxwU ?_
          with_reducible refine retU ?_
          exact k _ ((s1.trans s2).trans s3)
end
end L2.K19
set_option Elab.async false
set_option linter.all false
set_option maxRecDepth 100000
set_option maxHeartbeats 4000000
/-! The law's own reading of a text's words. -/
namespace L2.K19
open PySem PySem.Spec PyProof.Rows L2.RV NumText TL
def endR (l : Nat) : Nat ⊕ (List (Pl × Int) × Nat) → Nat ⊕ List (Pl × Int)
  | .inl e => .inl e
  | .inr r => if r.2 < l then .inl r.2 else .inr r.1
theorem readW_end (pl : List Pl) (ws : List Str) : readW pl ws = endR ws.length (if ws[0]? = some ("-" : Str) then .inr ([], 1) else scanR pl ws (pl.length + 1) 0 0 []) := by
  unfold readW
  cases (if ws[0]? = some ("-" : Str) then (.inr ([], 1) : Nat ⊕ (List (Pl × Int) × Nat)) else scanR pl ws (pl.length + 1) 0 0 []) with
  | inl e => rfl
  | inr r => rfl
def wrongV : Nat ⊕ List (Pl × Int) → V
  | .inl e => .int e
  | .inr _ => .non
/-- _law_rows_wrong(shape, words) -/
def spRowsWrong (K : PySem.W.Frag) : Sp := fun vs H Q _ => ∃ (s q : Addr) (ws : List Str) (ks : List Str) (d : Nat), vs = [.ref s, .ref q] ∧ ShapeAt K H s ks d ∧ WL H q ws ∧ ws ≠ [] ∧ ∀ H', Same H H' → Q (wrongV (readW (placesOf ks d) ws)) H'
section
variable {P : Program} {w : World} {K : PySem.W.Frag} {mg : Str → Option Value} {base : Heap} {fd : FuncData}
theorem ok_law_rows_wrong (T : Top w K mg) (D_law_is_number : Def P w K mg base "_law_is_number" 1 ["_law_word"] spLIsNum) (D_law_place_wrong : Def P w K mg base "_law_place_wrong" 3 ["_law_shape_here", "_law_words", "_law_at", "_law_last"] (spPlaceWrong K)) (F : Fn K "_law_rows_wrong" s_law_rows_wrong fd) : FnOk P w K mg base CX0 4 (He.ga K "_law_rows_wrong") fd ["_law_shape_here", "_law_words"] (spRowsWrong K) := by
  refine F.ok sc_law_rows_wrong (fun vs H Q E h => ?_) (fun cdv A outer s H vs Q E hr h => ?_)
  · obtain ⟨sa, q, ws, ks, d, rfl, _⟩ := h
    rfl
  · obtain ⟨sa, q, ws, ks, d, rfl, s0, wl, ne, k⟩ := h
    have hu := hr.units
    have hux : (A.deeper (envOfC "_law_rows_wrong" (defScope s_law_rows_wrong) s.heap.objs.size (He.ga K "_law_rows_wrong") cdv)).units + 65 < cLine := by
      have := hr.un
      omega
    refine ⟨_, PSs.nox (pss_cons (ps_if (pt_cmpR (op_sameK (K := K) rfl hu) (pe_slice sl_list (pv 1) po_none (po_some pe_int)) (pe_lstN (pa_cons pe_str pa_nil)) (nomark _)) (pss_one (ps_ret (pe_ifExp (pt_cmpR op_gt (pe_callB (call_lenK (K := K) rfl) rfl T.n_len (by decide +kernel) (pa_cons (pv 1) pa_nil)) pe_int (nomark _)) pe_int pe_non))) pss_nil)
      (pss_cons (ps_asg (pe_tup (pa_cons pe_int (pa_cons (pe_un un_neg pe_int) pa_nil))) (pg_tup rfl (pgs_cons (pg_name (i := 2) sc_law_rows_wrong.nd rfl (by first | exact Or.inl rfl | exact Or.inr rfl)) (pgs_cons (pg_name (i := 3) sc_law_rows_wrong.nd rfl (by first | exact Or.inl rfl | exact Or.inr rfl)) pgs_nil))))
      (pss_one (ps_while PassesOwn.never (pt_truth pe_bl (by intro _; rfl)) (pss_cons (ps_if (PW.pt (pw_or (pt_cmpR op_ge (pv 2) (pe_callB (call_lenK (K := K) rfl) rfl T.n_len (by decide +kernel) (pa_cons (pv 1) pa_nil)) (nomark _)) (pw_or (pt_not (pt_val (pe_callD D_law_is_number (hr.mono (by decide)) rfl (pa_cons (pe_ix (ix_seqK (K := K) rfl) (pv 1) (pv 2) (fun _ _ => rfl)) pa_nil)))) (pw_or1 (pt_cmpR (op_sameK (K := K) rfl hu) (pe_callTy call_int_str rfl T.n_int (by decide +kernel) (pa_cons (pe_ix (ix_seqK (K := K) rfl) (pv 1) (pv 2) (fun _ _ => rfl)) pa_nil)) pe_int (nomark _)))))) (pss_one (ps_ret (pv 2))) pss_nil)
      (pss_cons (ps_set (i := 4) sc_law_rows_wrong.nd rfl (by first | exact Or.inl rfl | exact Or.inr rfl) (pe_callD D_law_place_wrong (hr.mono (by decide)) rfl (pa_cons (pv 0) (pa_cons (pv 1) (pa_cons (pe_op op_plus (pv 2) pe_int) (pa_cons (pv 3) pa_nil))))))
      (pss_cons (ps_if (pt_cmpR op_notN (pv 4) pe_non (nomark _)) (pss_one (ps_ret (pv 4))) pss_nil)
      (pss_cons (ps_set (i := 3) sc_law_rows_wrong.nd rfl (by first | exact Or.inl rfl | exact Or.inr rfl) (pe_bmK (K := K) rfl PySem.F.plainAttrs_list PySem.F.slot_list_index PySem.F.type_list_index (mt_indexK (K := K) rfl hux) (pe_callTy (call_listK (K := K) rfl) rfl T.n_list (by decide +kernel) (pa_cons (pe_fldK (K := K) rfl (pv 0) rfl) pa_nil)) (pa_cons (pe_tup (pa_cons (pe_ix (ix_seqK (K := K) rfl) (pv 1) (pe_op op_plus (pv 2) pe_int) (fun _ _ => rfl)) (pa_cons (pe_callTy call_int_str rfl T.n_int (by decide +kernel) (pa_cons (pe_ix (ix_seqK (K := K) rfl) (pv 1) (pe_op op_plus (pv 2) pe_int) (fun _ _ => rfl)) pa_nil)) pa_nil))) pa_nil)))
      (pss_cons (ps_set (i := 2) sc_law_rows_wrong.nd rfl (by first | exact Or.inl rfl | exact Or.inr rfl) (pe_op op_plus (pv 2) pe_int))
      (pss_cons (ps_if (pt_cmpR (op_sameK (K := K) rfl hu) (pv 2) (pe_callB (call_lenK (K := K) rfl) rfl T.n_len (by decide +kernel) (pa_cons (pv 1) pa_nil)) (nomark _)) (pss_one (ps_ret pe_non)) pss_nil)
      (pss_cons (ps_if (pt_cmpR (op_diffK (K := K) rfl hu) (pe_ix (ix_seqK (K := K) rfl) (pv 1) (pv 2) (fun _ _ => rfl)) pe_str (nomark _)) (pss_one (ps_ret (pv 2))) pss_nil)
      (pss_one (ps_set (i := 2) sc_law_rows_wrong.nd rfl (by first | exact Or.inl rfl | exact Or.inr rfl) (pe_op op_plus (pv 2) pe_int)))))))))))))), ?_⟩
    obtain ⟨dxs, t1, t2, t3, bs, c⟩ := s0.core
    have l36 : (placesOf ks d).length ≤ 36 := by rw [length_places]; exact s0.ok.few
    have ndp := nodup_places d s0.ok.nd
    have names : ∀ p ∈ placesOf ks d, PyData.strOk p.1 = true := fun p hp => (name_free (s0.ok.names _ (place_name hp).1)).2.1
    rw [readW_end] at k
    with_reducible refine seqU ?_
    with_reducible refine ifU ?_
    with_reducible refine testU ?_
    with_reducible refine opU ?_
    have lq : ∀ {H2}, Same H H2 → LenV K (.ref q) H2 (ws.map V.str).length := fun s2 => len_sq (.inr (SqL.of (wl.same s2).at_))
    have wlen : (ws.map V.str).length = ws.length := List.length_map ..
    obtain ⟨w0, wr, ew⟩ : ∃ w0 wr, ws = w0 :: wr := by
      cases ws with
      | nil => exact absurd rfl ne
      | cons a b => exact ⟨a, b, rfl⟩
    have cut : cutV (ws.map V.str) none (some 1) = [V.str w0] := by
      unfold cutV
      have e1 : (1 : Int) = ((1 : Nat) : Int) := rfl
      rw [e1, HT.sIx_nat, HT.sIx_none, ew]
      show ((V.str w0 :: wr.map V.str).drop 0).take (min 1 (wr.map V.str).length.succ - 0) = _
      have m1 : min 1 (wr.map V.str).length.succ = 1 := Nat.min_eq_left (Nat.succ_le_succ (Nat.zero_le _))
      rw [m1]
      rfl
    have w0m : w0 ∈ ws := by rw [ew]; exact List.mem_cons_self
    have e0 : ws[0]? = some w0 := by rw [ew]; rfl
    rw [e0] at k
    refine ⟨_, rfl, _, rfl, q, ws.map V.str, rfl, SqL.of wl.at_, fun L1 nL1 => ?_⟩
    rw [cut]
    refine ⟨(by decide : (1 : Nat) ≤ sizeLine), fun L2 nL2 _ => .inr ⟨.list [.str w0], .list [.str "-"], ?_, ?_, ?_, ?_, _, rfl, ?_⟩⟩
    · exact .lst (SqL.of (same_new nL2 _ _ upd_same)) (.cons (.str w0) .nil)
    · exact .lst (SqL.of upd_same) (.cons (.str "-") .nil)
    · exact shaped_str (xs := [w0]) (by rw [List.all_cons, wl.ok w0 w0m]; rfl)
    · exact shaped_str (xs := ["-"]) (by decide +kernel)
    have s2 := (same_new (o := .lst [V.str w0]) nL1).trans (same_new (o := .lst [V.str "-"]) nL2)
    generalize upd (upd H L1 (.lst [V.str w0])) L2 (.lst [V.str "-"]) = H2 at s2 ⊢
    have ev : PyData.eqv (.list [.str w0]) (.list [.str "-"]) = decide (w0 = "-") := by
      simp only [PyData.eqv, PyData.eqvAll, Bool.and_true]
      rfl
    rw [ev]
    refine ite2 (fun c0 => ?_) (fun c0 => ?_)
    · have ed : w0 = "-" := of_decide_eq_true c0
      rw [if_pos (by rw [ed])] at k
      with_reducible refine retU ?_
      have z := k H2 s2
      refine ⟨_, rfl, _, _, rfl, lq s2, _, _, rfl, rfl, _, rfl, ?_⟩
      rw [wlen]
      unfold endR at z
      dsimp only at z
      refine ite2 (fun c1 => ?_) (fun c1 => ?_)
      · have l1 : 1 < ws.length := by have := of_decide_eq_true c1; omega
        rw [if_pos l1] at z
        exact z
      · have l1 : ¬ 1 < ws.length := fun h => c1 (decide_eq_true (by omega))
        rw [if_neg l1] at z
        exact z
    have nd : w0 ≠ "-" := fun e => c0 (decide_eq_true e)
    rw [if_neg (fun e => nd (Option.some.inj e))] at k
    refine nxwU ?_
    with_reducible refine seqU ?_
    refine ⟨_, rfl, (by decide : (2 : Nat) ≤ sizeLine), fun t nt => ⟨t, _, rfl, SqT.of upd_same, rfl, _, _, rfl, _, _, rfl, rfl, ?_⟩⟩
    have s3 := s2.trans (same_new (o := .tup [.int 0, .int (-1)]) nt)
    refine nxwU ?_
    show tWhile _ _ _ [some (.ref sa), some (.ref q), some (.int ((0 : Nat) : Int)), some (.int (((0 : Nat) : Int) - 1)), none] _
    generalize upd H2 t (.tup [.int 0, .int (-1)]) = H3 at s3 ⊢
    refine ⟨fun μ σ' H' => ∃ (i n : Nat) (rs : List (Pl × Int)) (c4 : Option V), σ' = [some (.ref sa), some (.ref q), some (.int (i : Int)), some (.int ((n : Int) - 1)), c4] ∧ Same H H' ∧ n ≤ (placesOf ks d).length ∧ i ≤ ws.length ∧ scanR (placesOf ks d) ws ((placesOf ks d).length + 1) 0 0 [] = scanR (placesOf ks d) ws μ i n rs ∧ (placesOf ks d).length < n + μ,
      ⟨(placesOf ks d).length + 1, 0, 0, [], none, rfl, s3, Nat.zero_le _, Nat.zero_le _, rfl, by omega⟩, fun μ σ' H' e => ?_⟩
    obtain ⟨i, n, rs, c4, rfl, s4, hn, hi, sc, fuel⟩ := e
    rw [sc] at k
    obtain ⟨m, rfl⟩ : ∃ m, μ = m + 1 := ⟨μ - 1, by omega⟩
    refine ⟨true, rfl, ?_⟩
    refine ⟨fun σ' H' => ∃ m', m' < m + 1 ∧ _, fun _ _ h => h, ?_⟩
    with_reducible refine seqU ?_
    with_reducible refine ifU ?_
    with_reducible refine torU ?_
    refine ⟨_, rfl, _, rfl, _, _, rfl, lq s4, _, _, rfl, rfl, _, rfl, ?_⟩
    rw [wlen]
    have bad : ∀ {H5}, Same H H5 → ∀ e, rowAt (placesOf ks d) ws i n = .inl e → Q (.int e) H5 := fun s5 e he => by
      rw [scan_bad he] at k
      exact k _ s5
    cases e1 : ws[i]? with
    | none =>
      have li := List.getElem?_eq_none_iff.mp e1
      rw [decide_eq_true (show ((ws.length : Nat) : Int) ≤ (i : Nat) by omega)]
      refine ite2 (fun _ => ?_) (fun z => absurd rfl z)
      refine ite2 (fun _ => ?_) (fun z => absurd rfl z)
      with_reducible refine retU ?_
      exact ⟨_, rfl, bad s4 i (by unfold rowAt; rw [e1])⟩
    | some x =>
      have li := (List.getElem?_eq_some_iff.mp e1).1
      have mx : x ∈ ws := List.mem_of_getElem? e1
      have ex : ∀ {H5}, Same H H5 → ∀ {R : VK}, R (.str x) H5 → rIx K (.ref q) (.int (i : Nat)) H5 R := fun s5 R r => ix_sq (.inr (SqL.of (wl.same s5).at_)) (atI_nat (by rw [List.getElem?_map, e1]; rfl)) r
      rw [decide_eq_false (show ¬ ((ws.length : Nat) : Int) ≤ (i : Nat) by omega)]
      refine ite2 (fun z => nomatch z) (fun _ => ?_)
      refine ⟨_, rfl, _, rfl, ex s4 ⟨x, rfl, wl.short x mx, wl.ok x mx, fun H5 s45 => ⟨_, rfl, ?_⟩⟩⟩
      have s5 := s4.trans s45
      cases cw : wholeText x with
      | false =>
        refine ite2 (fun _ => ?_) (fun z => absurd rfl z)
        refine ite2 (fun _ => ?_) (fun z => absurd rfl z)
        with_reducible refine retU ?_
        exact ⟨_, rfl, bad s5 i (by
          have isw : isW x = false := by unfold isW; rw [cw]; rfl
          unfold rowAt
          rw [e1]
          dsimp only
          rw [isw, if_neg (by decide)])⟩
      | true =>
        refine ite2 (fun z => nomatch z) (fun _ => ?_)
        refine ⟨_, rfl, _, rfl, ex s5 ⟨x, wholeNum x, rfl, whole_int cw (Nat.le_trans (wl.short x mx) (by decide)), Nat.le_trans (wl.short x mx) (by decide), .inl ⟨rfl, _, rfl, ?_⟩⟩⟩
        refine ite2 (fun cz => ?_) (fun cz => ?_)
        · have ez : wholeNum x = 0 := V.int.inj (of_decide_eq_true cz)
          have x0 : x = "0" := by
            have z := whole_back cw
            rw [ez, intS_0] at z
            exact z
          with_reducible refine retU ?_
          exact ⟨_, rfl, bad s5 i (by
            have isw : isW x = false := by unfold isW; rw [cw, decide_eq_true x0]; rfl
            unfold rowAt
            rw [e1]
            dsimp only
            rw [isw, if_neg (by decide)])⟩
        have nz : wholeNum x ≠ 0 := fun e => cz (decide_eq_true (by rw [e]))
        have hx : isW x = true := by
          unfold isW
          rw [cw, decide_eq_false (fun e => nz (by rw [e, ← intS_0, (int_whole 0).2]))]
          rfl
        obtain ⟨pw1, pw2⟩ := row_place_iff (pl := placesOf ks d) (n := n) e1 hx
        refine nxwU ?_
        with_reducible refine seqU ?_
        with_reducible refine setU ?_
        refine ⟨_, rfl, _, rfl, _, rfl, .inl ⟨_, _, rfl, rfl, _, rfl, sa, q, ws, i + 1, n, ks, d, rfl, s0.kp (.of s5), wl.same s5, hn, by have := wl.few; omega, fun H6 s56 => ?_⟩⟩
        show tSeq _ _ _ [some (.ref sa), some (.ref q), some (.int (i : Int)), some (.int ((n : Int) - 1)), some (optV (placeW (placesOf ks d) ws (i + 1) n))] H6
        have s6 := s5.trans s56
        refine nxwU ?_
        with_reducible refine seqU ?_
        with_reducible refine ifU ?_
        cases pw : placeW (placesOf ks d) ws (i + 1) n with
        | some e =>
          refine ⟨_, rfl, rfl, _, rfl, ?_⟩
          refine ite2 (fun _ => ?_) (fun z => absurd rfl z)
          with_reducible refine retU ?_
          exact ⟨_, rfl, bad s6 e (pw1 e pw)⟩
        | none =>
          obtain ⟨y, z, ey, ez, hP, er⟩ := pw2 pw
          obtain ⟨e, he, zi⟩ := isP_iff.mp hP
          have ze : wholeNum z = (e : Int) := by rw [zi, (int_whole _).2]
          have my : y ∈ ws := List.mem_of_getElem? ey
          have mz : z ∈ ws := List.mem_of_getElem? ez
          have li2 := (List.getElem?_eq_some_iff.mp ez).1
          have pm : (y, e) ∈ placesOf ks d := List.mem_of_mem_drop he
          rw [ze, Int.toNat_natCast] at er
          refine ⟨_, rfl, rfl, _, rfl, ?_⟩
          refine ite2 (fun z => nomatch z) (fun _ => ?_)
          refine nxwU ?_
          have ix : ∀ {H7}, Same H H7 → ∀ (j : Nat) (w : Str), ws[j]? = some w → ∀ {R : VK}, R (.str w) H7 → ∀ v : Int, v = (j : Int) → rIx K (.ref q) (.int v) H7 R := fun s7 j w hw R r v hv => by
            rw [hv]
            exact ix_sq (.inr (SqL.of (wl.same s7).at_)) (atI_nat (by rw [List.getElem?_map, hw]; rfl)) r
          with_reducible refine seqU ?_
          with_reducible refine setU ?_
          refine idx_places (p := (y, e)) T.k_Shape T.a_Shape_places c s6 rfl names (fun R H7 s7 r => ?_) pm fun H7 s7 => ?_
          · refine ⟨_, rfl, _, rfl, .inl ⟨_, _, rfl, rfl, ix (s6.trans s7) (i + 1) y ey ⟨_, rfl, _, rfl, .inl ⟨_, _, rfl, rfl, ix (s6.trans s7) (i + 2) z ez ⟨z, wholeNum z, rfl, whole_int (by rw [zi]; exact (int_whole _).1) (Nat.le_trans (wl.short z mz) (by decide)), Nat.le_trans (wl.short z mz) (by decide), (by decide : (2 : Nat) ≤ sizeLine), fun t nt => ?_⟩ _ (by push_cast; omega)⟩⟩ _ (by push_cast; omega)⟩⟩
            rw [ze]
            exact r _ (same_new nt) t upd_same
          show tSeq _ _ _ [some (.ref sa), some (.ref q), some (.int (i : Int)), some (.int ((((placesOf ks d).idxOf (y, e) : Nat) : Int))), some .non] H7
          have s67 := s6.trans s7
          have scr := scan_row (m := m) (rs := rs) er
          rw [scr] at k
          unfold restR at k
          have fr := idx_from ndp he
          have il := List.idxOf_lt_length_of_mem pm
          refine nxwU ?_
          with_reducible refine seqU ?_
          with_reducible refine setU ?_
          refine ⟨_, rfl, .inl ⟨_, _, rfl, rfl, ?_⟩⟩
          show tSeq _ _ _ [some (.ref sa), some (.ref q), some (.int ((i : Int) + 3)), some (.int ((((placesOf ks d).idxOf (y, e) : Nat) : Int))), some .non] H7
          refine nxwU ?_
          with_reducible refine seqU ?_
          with_reducible refine ifU ?_
          refine ⟨_, rfl, _, rfl, _, _, rfl, lq s67, .inl ⟨rfl, _, rfl, ?_⟩⟩
          rw [wlen]
          refine ite2 (fun ce => ?_) (fun ce => ?_)
          · have le : (i : Int) + 3 = (ws.length : Nat) := V.int.inj (of_decide_eq_true ce)
            have e3 : ws[i + 3]? = none := List.getElem?_eq_none (by omega)
            rw [e3, if_neg (fun q => nomatch q)] at k
            have z := k H7 s67
            unfold endR at z
            dsimp only at z
            rw [if_neg (by omega)] at z
            with_reducible refine retU ?_
            exact z
          have ln : ¬ (i : Int) + 3 = (ws.length : Nat) := fun h => ce (decide_eq_true (by rw [h]))
          have li3 : i + 3 < ws.length := by omega
          refine nxwU ?_
          with_reducible refine seqU ?_
          with_reducible refine ifU ?_
          refine ⟨_, rfl, _, rfl, ix s67 (i + 3) ws[i + 3] (List.getElem?_eq_getElem li3) (.inl ⟨rfl, _, rfl, ?_⟩) _ (by push_cast; omega)⟩
          refine ite2 (fun cc => ?_) (fun cc => ?_)
          · have nc : ws[i + 3] ≠ "," := fun h => by rw [h] at cc; exact absurd cc (by decide +kernel)
            rw [List.getElem?_eq_getElem li3, if_neg (fun q => nc (Option.some.inj q))] at k
            have z := k H7 s67
            unfold endR at z
            dsimp only at z
            rw [if_pos li3] at z
            with_reducible refine retU ?_
            exact ⟨_, rfl, z⟩
          have hc : ws[i + 3] = "," := by
            by_cases h : ws[i + 3] = ","
            · exact h
            · refine absurd ?_ cc
              rw [decide_eq_false (fun q => h (V.str.inj q))]
              rfl
          refine nxwU ?_
          refine ⟨_, rfl, .inl ⟨_, _, rfl, rfl, ?_⟩⟩
          refine ⟨m, Nat.lt_succ_self m, i + 3 + 1, (placesOf ks d).idxOf (y, e) + 1, rs ++ [((y, e), wholeNum x)], some .non, ?_, s67, by omega, by omega, ?_, by omega⟩
          · have e1 : (i : Int) + 3 + 1 = ((i + 3 + 1 : Nat) : Int) := by push_cast; omega
            have e2 : ((((placesOf ks d).idxOf (y, e) + 1 : Nat) : Int)) - 1 = (((placesOf ks d).idxOf (y, e) : Nat) : Int) := by push_cast; omega
            rw [e2, ← e1]
            rfl
          · rw [sc, scr]
            unfold restR
            rw [List.getElem?_eq_getElem li3, hc, if_pos rfl]
end
end L2.K19
set_option Elab.async false
set_option linter.all false
set_option maxRecDepth 100000
set_option maxHeartbeats 4000000
/-! The law's own text of a question. -/
namespace L2.K19
open PySem PySem.Spec PyProof.Rows L2.RV NumText TL
/-- _law_text(shape, weights) -/
def spLText (K : PySem.W.Frag) : Sp := fun vs H Q _ => ∃ (s t : Addr) (ks : List Str) (d : Nat) (ws : List (Pl × Int)), vs = [.ref s, .ref t] ∧ ShapeAt K H s ks d ∧ H t = some (.dT (plD ws)) ∧ Wts ks d ws ∧ ∀ H', Same H H' → Q (.str (qText (bare ks d ws))) H'
def rowX (ws : List (Pl × Int)) (p : Pl) : Str := intS (atD ws p) ++ " " ++ p.1 ++ " " ++ intS (p.2 : Nat)
theorem log_lt {n : Int} (h : n.natAbs < 2 ^ 110) : n.natAbs.log2 < 1920 := by
  by_cases z : n.natAbs = 0
  · rw [z]
    decide
  · have := (Nat.log2_lt z).mpr h
    omega
theorem qText_rows {ks : List Str} {d : Nat} (ok : ShOk ks d) (ws : List (Pl × Int)) : qText (bare ks d ws) = if (nzs ks d ws) = [] then ("-" : Str) else Txt.join " , " ((nzs ks d ws).map (rowX ws)) := by
  have eb : bare ks d ws = (nzs ks d ws).map fun p => (p, atD ws p) := rfl
  unfold qText
  by_cases c : nzs ks d ws = []
  · rw [if_pos c, eb, c]
    rfl
  · have c2 : bare ks d ws ≠ [] := fun h => c (by rw [eb] at h; exact List.map_eq_nil_iff.mp h)
    rw [if_neg c, if_neg c2]
    have em : ((bare ks d ws).map fun z => rowT (bare ks d ws) z.1) = (nzs ks d ws).map (rowX ws) := by
      rw [eb, List.map_map]
      refine List.map_congr_left fun p hp => ?_
      show rowT ((nzs ks d ws).map fun p => (p, atD ws p)) p = rowX ws p
      rw [← eb]
      have hm : p ∈ placesOf ks d := (List.mem_filter.mp hp).1
      unfold rowT rowX
      rw [atD_bare ok hm]
      refine str_ext ?_
      simp only [tl_append]
      rfl
    rw [em]
section
variable {P : Program} {w : World} {K : PySem.W.Frag} {mg : Str → Option Value} {base : Heap} {fd : FuncData}
theorem ok_law_text (T : Top w K mg) (F : Fn K "_law_text" s_law_text fd) : FnOk P w K mg base CX0 1 (He.ga K "_law_text") fd ["_law_shape_here", "_law_weights_here"] (spLText K) := by
  refine F.ok sc_law_text (fun vs H Q E h => ?_) (fun cdv A outer s H vs Q E hr h => ?_)
  · obtain ⟨sa, t, ks, d, ws, rfl, _⟩ := h
    rfl
  · obtain ⟨sa, t, ks, d, ws, rfl, s0, et, wt, k⟩ := h
    have hu := hr.units
    refine ⟨_, PSs.nox (pss_cons (ps_set (i := 2) sc_law_text.nd rfl (by first | exact Or.inl rfl | exact Or.inr rfl) (pe_lstN pa_nil))
      (pss_cons (ps_for PassesOwn.never rfl (pi_sqK (K := K) rfl (pe_fldK (K := K) rfl (pv 0) rfl)) (pg_tup rfl (pgs_cons (pg_name (i := 3) sc_law_text.nd rfl (by first | exact Or.inl rfl | exact Or.inr rfl)) (pgs_cons (pg_name (i := 4) sc_law_text.nd rfl (by first | exact Or.inl rfl | exact Or.inr rfl)) pgs_nil))) (pss_one (ps_if (pt_cmpR (op_diffK (K := K) rfl hu) (pe_dget2 (Nat.lt_of_le_of_lt (Nat.add_le_add_left (by decide) _) hu) (pv 1) (pe_tup (pa_cons (pv 3) (pa_cons (pv 4) pa_nil))) pe_int ⟨rfl, rfl, rfl, rfl⟩) pe_int (nomark _)) (pss_one (ps_expr (pe_bm PySem.F.plainAttrs_list PySem.F.slot_list_append PySem.F.type_list_append mt_append (pv 2) (pa_cons (pe_op op_plus (pe_op op_plus (pe_op op_plus (pe_op op_plus (pe_callTy call_str_int rfl T.n_str (by decide +kernel) (pa_cons (pe_dget (Nat.lt_of_le_of_lt (Nat.add_le_add_left (by decide) _) hu) (pv 1) (pe_tup (pa_cons (pv 3) (pa_cons (pv 4) pa_nil))) (fun _ _ => rfl)) pa_nil)) pe_str) (pv 3)) pe_str) (pe_callTy call_str_int rfl T.n_str (by decide +kernel) (pa_cons (pv 4) pa_nil))) pa_nil)))) pss_nil)))
      (pss_one (ps_ret (pe_ifExp (pt_cmpR (op_diffK (K := K) rfl hu) (pv 2) (pe_lstN pa_nil) (nomark _)) (pe_bm PySem.F.plainAttrs_str PySem.F.slot_str_join PySem.F.type_str_join mt_join pe_str (pa_cons (pv 2) pa_nil)) pe_str))))), ?_⟩
    obtain ⟨dxs, t1, t2, t3, bs, c⟩ := s0.core
    with_reducible refine seqU ?_
    with_reducible refine setU ?_
    refine ⟨(by decide : (0 : Nat) ≤ sizeLine), fun L nL _ => ?_⟩
    show tSeq _ _ _ [some (.ref sa), some (.ref t), some (.ref L), none, none] _
    refine nxwU ?_
    with_reducible refine seqU ?_
    have sL := same_new (o := .lst []) nL
    have eL : (upd H L (.lst [])) L = some (.lst []) := upd_same
    generalize upd H L (.lst []) = H1 at sL eL ⊢
    have lcs : bs.length ≤ 36 := by rw [c.len, length_places]; exact c.ok.few
    have lc : (bs.map V.ref).length = (placesOf ks d).length := by rw [List.length_map, c.len]
    have c1 := c.kp (E := fun _ => False) (.of sL) id
    have lim : ∀ p, (atD ws p).natAbs < 10 ^ 34 := fun p => Nat.lt_trans (wt.bits.at_ p) (by decide)
    have lrow : ∀ p ∈ placesOf ks d, (intS (atD ws p)).length ≤ 35 ∧ p.1.length ≤ 8 ∧ (intS (p.2 : Nat)).length ≤ 2 := fun p hp => by
      obtain ⟨a, b⟩ := place_name hp
      have d8 := s0.ok.d8
      exact ⟨int_lenK (by decide) (lim p), (name_free (s0.ok.names _ a)).2.2, int_lenK (k := 1) (by decide) (by rw [Int.natAbs_natCast]; omega)⟩
    have lsp : (" " : Str).length = 1 := by decide +kernel
    refine ⟨_, rfl, sa, _, _, _, _, rfl, c1.obj, T.k_Shape, T.a_Shape_places, rfl, t2, _, rfl, .inl (.inl c1.places), fun J wk => ?_⟩
    have spl : (placesOf ks d).length ≤ 36 := by rw [← c.len]; exact lcs
    refine for_it wk (fun n σ' H' => ∃ c3 c4, σ' = [some (.ref sa), some (.ref t), some (.ref L), c3, c4] ∧ Same H H' ∧ H' L = some (.lst (((((placesOf ks d).take n).filter (nz ws)).map (rowX ws)).map V.str)))
      ⟨_, _, rfl, sL, eL⟩ (fun n σ' H' _ q => ?_) (fun n z σ' H2 H3 hn q yy => ?_) (fun σ' H' q => ?_)
    · obtain ⟨_, _, _, sm, _⟩ := q
      refine .of_eq fun o e => ?_
      rcases c.places with h | ⟨od, h⟩
      · rw [sL _ _ h] at e
        cases e
        exact sm _ _ h
      · rw [sL _ _ h] at e
        cases e
        exact sm _ _ h
    · obtain ⟨c3, c4, rfl, sm, eL2⟩ := q
      obtain ⟨rfl, hz⟩ := yy
      rw [lc] at hn
      rw [List.getElem?_map] at hz
      obtain ⟨b, hb, rfl⟩ := Option.map_eq_some_iff.mp hz
      have hp : (placesOf ks d)[n]? = some (placesOf ks d)[n] := List.getElem?_eq_getElem hn
      have pm : (placesOf ks d)[n] ∈ placesOf ks d := List.getElem_mem hn
      have hbk := sm _ _ (c.each n _ b hp hb)
      refine ⟨b, _, rfl, SqT.of hbk, rfl, _, _, rfl, _, _, rfl, rfl, ?_⟩
      generalize hpp : (placesOf ks d)[n] = p at hp pm hbk ⊢
      have et3 := sm _ _ et
      obtain ⟨lr1, lr2, lr3⟩ := lrow p pm
      refine ⟨_, rfl, t, rfl, .inr ⟨_, .inl et3⟩, _, rfl, _, rfl, (by decide : (2 : Nat) ≤ sizeLine), fun q1 nq1 => ⟨_, .inr ⟨_, plK p, q1, .inl (same_new nq1 _ _ et3), rfl, upd_same, rfl⟩, ?_⟩⟩
      have s1 := same_new (o := .tup [.str p.1, .int (p.2 : Nat)]) nq1
      rw [valV_plD]
      refine .inl ⟨rfl, _, rfl, ?_⟩
      have et4 := s1 _ _ et3
      have eL4 := s1 _ _ eL2
      have sm4 := sm.trans s1
      rw [take_snoc hp, List.filter_append]
      refine ite2 (fun cn => ?_) (fun cn => ?_)
      · have nzp : nz ws p = true := cn
        have e2 : [p].filter (nz ws) = [p] := by simp [nzp]
        rw [e2]
        have big : sizeLine = 16777216 := sizeLine_eq
        refine ⟨_, rfl, .inl ⟨rfl, _, SqL.of eL4⟩, ?_⟩
        refine ⟨_, rfl, _, rfl, _, rfl, (by decide : (2 : Nat) ≤ sizeLine), fun q2 nq2 => ⟨t, _, rfl, .inr ⟨_, plK p, q2, .inl (same_new nq2 _ _ et4), rfl, upd_same, (valV_nz nzp).symm⟩, ?_⟩⟩
        have s2 := same_new (o := .tup [.str p.1, .int (p.2 : Nat)]) nq2
        have eL5 := s2 _ _ eL4
        have sm5 := sm4.trans s2
        have l1 : (intS (atD ws p) ++ " ").length = (intS (atD ws p)).length + 1 := by rw [len_app, lsp]
        have l2 : (intS (atD ws p) ++ " " ++ p.1).length = (intS (atD ws p)).length + 1 + p.1.length := by rw [len_app, l1]
        have l3 : (intS (atD ws p) ++ " " ++ p.1 ++ " ").length = (intS (atD ws p)).length + 1 + p.1.length + 1 := by rw [len_app, l2, lsp]
        refine ⟨_, rfl, log_lt (wt.bits.at_ p), .inr (.inr ⟨_, _, rfl, rfl, ?_, _, rfl, .inr (.inr ⟨_, _, rfl, rfl, ?_, .inr (.inr ⟨_, _, rfl, rfl, ?_, _, rfl, _, rfl, ?_, .inr (.inr ⟨_, _, rfl, rfl, ?_, ?_⟩)⟩)⟩)⟩)⟩
        · show (intS (atD ws p)).length + (" " : Str).length ≤ sizeLine
          omega
        · show (intS (atD ws p) ++ " ").length + p.1.length ≤ sizeLine
          omega
        · show (intS (atD ws p) ++ " " ++ p.1).length + (" " : Str).length ≤ sizeLine
          omega
        · have d2 := (place_name pm).2
          have d8 := s0.ok.d8
          exact log8 (by omega)
        · show (intS (atD ws p) ++ " " ++ p.1 ++ " ").length + (intS (p.2 : Nat)).length ≤ sizeLine
          omega
        · refine ⟨L, _, .str (rowX ws p), rfl, rfl, eL5, ?_, ?_⟩
          · have z := List.length_filter_le (nz ws) ((placesOf ks d).take n)
            rw [List.length_take] at z
            rw [List.length_map, List.length_map]
            omega
          · refine ⟨_, _, rfl, same_put sm5 nL, ?_⟩
            rw [upd_same, List.map_append, List.map_append]
            rfl
      · have nzp : nz ws p = false := Bool.eq_false_iff.mpr cn
        have e2 : [p].filter (nz ws) = [] := by simp [nzp]
        rw [e2, List.append_nil]
        exact ⟨_, _, rfl, sm4, eL4⟩
    · obtain ⟨c3, c4, rfl, sm, eL2⟩ := q
      rw [lc, List.take_length] at eL2
      have z := k _ sm
      rw [qText_rows s0.ok] at z
      have sok : ∀ p ∈ nzs ks d ws, PyData.strOk (rowX ws p) = true ∧ (rowX ws p).length ≤ 47 := fun p hp => by
        have hm : p ∈ placesOf ks d := (List.mem_filter.mp hp).1
        obtain ⟨lr1, lr2, lr3⟩ := lrow p hm
        have nf := (name_free (s0.ok.names _ (place_name hm).1)).2.1
        refine ⟨?_, ?_⟩
        · rw [strOk_iff]
          intro c hc
          unfold rowX at hc
          simp only [tl_append] at hc
          rcases List.mem_append.mp hc with hc | hc
          · rcases List.mem_append.mp hc with hc | hc
            · rcases List.mem_append.mp hc with hc | hc
              · rcases List.mem_append.mp hc with hc | hc
                · exact strOk_iff.mp (int_free _).2 c hc
                · rw [blank_tl, List.mem_singleton] at hc
                  omega
              · exact strOk_iff.mp nf c hc
            · rw [blank_tl, List.mem_singleton] at hc
              omega
          · exact strOk_iff.mp (int_free _).2 c hc
        · unfold rowX
          rw [len_app, len_app, len_app, len_app, lsp]
          omega
      have few : (nzs ks d ws).length ≤ 36 := Nat.le_trans (List.length_filter_le _ _) spl
      refine ⟨_, rfl, (by decide : (0 : Nat) ≤ sizeLine), fun l nl _ => .inr ⟨.list (((nzs ks d ws).map (rowX ws)).map PyData.str), .list [], ?_, ?_, ?_, ?_, _, rfl, ?_⟩⟩
      · exact .lst (SqL.of (same_new nl _ _ eL2)) (dpA_str _)
      · exact .lst (SqL.of upd_same) .nil
      · refine shaped_str (List.all_eq_true.mpr fun y hy => ?_)
        obtain ⟨p, hp, rfl⟩ := List.mem_map.mp hy
        exact (sok p hp).1
      · exact shaped_str (xs := []) rfl
      rw [eqv_nilS]
      have s8 := same_new (o := .lst []) nl
      have z8 := k _ (sm.trans s8)
      rw [qText_rows s0.ok] at z8
      refine ite2 (fun c8 => ?_) (fun c8 => ?_)
      · have ne : nzs ks d ws ≠ [] := fun e => by rw [e] at c8; cases c8
        rw [if_neg ne] at z8
        refine ⟨rfl, _, rfl, _, L, (nzs ks d ws).map (rowX ws), rfl, rfl, .inl (SqL.of (s8 _ _ eL2)), ?_, z8⟩
        have key : ∀ l : List Pl, (∀ p ∈ l, (rowX ws p).length ≤ 47) → ((l.map (rowX ws)).map (·.length)).sum ≤ 47 * l.length := by
          intro l
          induction l with
          | nil => intro _; exact Nat.le_refl _
          | cons p r ih =>
            intro h
            rw [List.map_cons, List.map_cons, List.sum_cons, List.length_cons]
            have a := h p List.mem_cons_self
            have b := ih fun q hq => h q (List.mem_cons_of_mem _ hq)
            show (rowX ws p).length + _ ≤ _
            omega
        have l3 : (" , " : Str).length = 3 := by decide +kernel
        have k1 := key (nzs ks d ws) fun p hp => (sok p hp).2
        rw [List.length_map, l3]
        omega
      · have e : nzs ks d ws = [] := by
          cases q : nzs ks d ws with
          | nil => rfl
          | cons a b => rw [q] at c8; exact absurd rfl c8
        rw [if_pos e] at z8
        exact z8
end
end L2.K19
set_option Elab.async false
set_option linter.all false
set_option maxRecDepth 100000
set_option maxHeartbeats 4000000
/-! A page bent at one place. -/
namespace L2.K19
open PySem PySem.Spec PyProof.Rows L2.RV NumText TL
/-- what is known of a page: its runs, its blanks, its length -/
structure Pg (n c L : Nat) (t : Str) : Prop where
  run : Run n (tl t)
  cnt : (tl t).count 32 ≤ c
  len : t.length ≤ L
  ok : PyData.strOk t = true
/-- words that may stand on a page -/
def WB (n : Nat) (ws : List Str) : Prop := ∀ w ∈ ws, w.length ≤ n ∧ (32 : Nat) ∉ tl w ∧ PyData.strOk w = true
theorem WB.app {n : Nat} {a b : List Str} (x : WB n a) (y : WB n b) : WB n (a ++ b) := fun w h => (List.mem_append.mp h).elim (x w) (y w)
theorem WB.sub {n : Nat} {a b : List Str} (x : WB n b) (s : ∀ w ∈ a, w ∈ b) : WB n a := fun w h => x w (s w h)
theorem WB.mono {n m : Nat} {a : List Str} (x : WB n a) (h : n ≤ m) : WB m a := fun w hw => ⟨Nat.le_trans (x w hw).1 h, (x w hw).2⟩
def sumL2 (ws : List Str) : Nat := (ws.map (·.length)).sum
theorem sum_app (a b : List Str) : sumL2 (a ++ b) = sumL2 a + sumL2 b := by
  unfold sumL2
  rw [List.map_append, List.sum_append]
theorem sum_take (a : List Str) (i : Nat) : sumL2 (a.take i) + sumL2 (a.drop i) = sumL2 a := by
  rw [← sum_app, List.take_append_drop]
theorem sum_drop_le (a : List Str) {i j : Nat} (h : i ≤ j) : sumL2 (a.drop j) ≤ sumL2 (a.drop i) := by
  have z := sum_take (a.drop i) (j - i)
  rw [List.drop_drop] at z
  have e : i + (j - i) = j := by omega
  rw [e] at z
  omega
theorem WB.page {n : Nat} {ws : List Str} (x : WB n ws) {c L : Nat} (hc : ws.length ≤ c + 1) (hL : sumL2 ws + ws.length ≤ L) : Pg n c L (Txt.join " " ws) :=
  ⟨join_run fun w h => (x w h).1, by rw [join_cnt fun w h => (x w h).2.1]; omega, Nat.le_trans (join_lenW ws) hL, join_ok fun w h => (x w h).2.2⟩
theorem Pg.words {n c L : Nat} {t : Str} (p : Pg n c L t) : WB n (Txt.split t " ") ∧ (Txt.split t " ").length ≤ c + 1 ∧ sumL2 (Txt.split t " ") ≤ L ∧ Txt.split t " " ≠ [] :=
  ⟨fun w h => ⟨split_run p.run h, split_free h, split_ok p.ok h⟩, by rw [RV.split_len]; have := p.cnt; omega, Nat.le_trans (split_sum t) p.len, split_ne t⟩
theorem Pg.mono {n c L n' c' L' : Nat} {t : Str} (p : Pg n c L t) (h1 : n ≤ n') (h2 : c ≤ c') (h3 : L ≤ L') : Pg n' c' L' t := ⟨p.run.mono h1, Nat.le_trans p.cnt h2, Nat.le_trans p.len h3, p.ok⟩
theorem cut_take (xs : List V) (k : Nat) : cutV xs none (some (k : Int)) = xs.take k := by
  unfold cutV
  rw [HT.sIx_none, HT.sIx_nat, List.drop_zero, Nat.sub_zero, ← List.take_take, List.take_length]
theorem cut_drop (xs : List V) (k : Nat) : cutV xs (some (k : Int)) none = xs.drop k := by
  unfold cutV
  rw [HT.sIx_none, HT.sIx_nat]
  by_cases h : k ≤ xs.length
  · rw [Nat.min_eq_left h]
    exact List.take_of_length_le (by rw [List.length_drop]; exact Nat.le_refl _)
  · rw [Nat.min_eq_right (by omega), List.drop_length, List.take_nil, List.drop_eq_nil_iff.mpr (by omega)]
theorem cut_mid (xs : List V) {a b : Nat} (h : a ≤ xs.length) : cutV xs (some (a : Int)) (some (b : Int)) = (xs.drop a).take (b - a) := by
  unfold cutV
  rw [HT.sIx_nat, HT.sIx_nat, Nat.min_eq_left h]
  by_cases c : b ≤ xs.length
  · rw [Nat.min_eq_left c]
  · rw [Nat.min_eq_right (by omega), List.take_of_length_le (by rw [List.length_drop]; exact Nat.le_refl _), List.take_of_length_le (by rw [List.length_drop]; omega)]
theorem cutS_take (x : Str) (k : Nat) : tl (cutS x none (some (k : Int))) = (tl x).take k := tl_cut0 x k
theorem cutS_drop (x : Str) (k : Nat) : tl (cutS x (some (k : Int)) none) = (tl x).drop k := by
  unfold cutS
  rw [HT.sIx_nat, HT.sIx_none, tl_mk, len_tl]
  show ((tl x).drop (min k (tl x).length)).take ((tl x).length - min k (tl x).length) = _
  by_cases h : k ≤ (tl x).length
  · rw [Nat.min_eq_left h]
    exact List.take_of_length_le (by rw [List.length_drop]; exact Nat.le_refl _)
  · rw [Nat.min_eq_right (by omega), List.drop_length, List.take_nil, List.drop_eq_nil_iff.mpr (by omega)]
/-- a page cut at one place, a sign put in, the rest from there or from one further -/
theorem Pg.cut {n c L : Nat} {t s : Str} (p : Pg n c L t) {k j : Nat} (hj : k ≤ j) (ls : s.length ≤ 1) (so : PyData.strOk s = true) : Pg (2 * n + 1) (c + 1) (L + 1) (cutS t none (some (k : Int)) ++ s ++ cutS t (some (j : Int)) none) := by
  have e : tl (cutS t none (some (k : Int)) ++ s ++ cutS t (some (j : Int)) none) = (tl t).take k ++ tl s ++ (tl t).drop j := by
    rw [tl_append, tl_append, cutS_take, cutS_drop]
  have l1 : (tl s).length ≤ 1 := by rw [← len_tl]; exact ls
  refine ⟨?_, ?_, ?_, ?_⟩
  · rw [e]
    exact (((p.run.take k).app ((run_len (tl s)).mono l1)).app (p.run.drop j)).mono (by omega)
  · rw [e, List.count_append, List.count_append]
    have c1 : (tl s).count 32 ≤ 1 := Nat.le_trans List.count_le_length l1
    have c2 : ((tl t).take k).count 32 + ((tl t).drop j).count 32 ≤ (tl t).count 32 := by
      have h1 : ((tl t).drop j).count 32 ≤ ((tl t).drop k).count 32 := by
        have : (tl t).drop j = ((tl t).drop k).drop (j - k) := by rw [List.drop_drop]; congr 1; omega
        rw [this]
        exact (List.drop_sublist _ _).count_le _
      have h2 : ((tl t).take k).count 32 + ((tl t).drop k).count 32 = (tl t).count 32 := by rw [← List.count_append, List.take_append_drop]
      omega
    have := p.cnt
    omega
  · rw [len_tl, e, List.length_append, List.length_append, List.length_take, List.length_drop]
    have := p.len
    rw [len_tl] at this
    omega
  · rw [strOk_iff, e]
    intro ch hc
    rcases List.mem_append.mp hc with hc | hc
    · rcases List.mem_append.mp hc with hc | hc
      · exact strOk_iff.mp p.ok ch (List.mem_of_mem_take hc)
      · exact strOk_iff.mp so ch hc
    · exact strOk_iff.mp p.ok ch (List.mem_of_mem_drop hc)
theorem consU1 {ta : TE} {σ : L2.St} {H : Hp} {Q : List V → Hp → Prop} (h : ta σ H fun x H1 => Q [x] H1) : tCons ta tNil σ H Q := h
theorem sl_take {K : PySem.W.Frag} {σ : L2.St} {H : Hp} {Q : VK} {W : Addr} {ws : List Str} {i k : Nat} {te : TE} (v : σ[i]? = some (some (.ref W))) (eW : H W = some (.lst (ws.map V.str))) (he : ∀ R : VK, R (.int (k : Int)) H → te σ H R)
    (q : ∀ A H', H A = none → Same H H' → H' A = some (.lst ((ws.take k).map V.str)) → Q (.ref A) H') : tSl (rSlL K) (tVar i) tNoPart (tPart te) σ H Q := by
  refine ⟨_, v, he _ ⟨_, rfl, W, _, rfl, SqL.of eW, fun A nA => ?_⟩⟩
  rw [cut_take, ← List.map_take]
  exact q A _ nA (same_new nA) upd_same
theorem sl_drop {K : PySem.W.Frag} {σ : L2.St} {H : Hp} {Q : VK} {W : Addr} {ws : List Str} {i k : Nat} {te : TE} (v : σ[i]? = some (some (.ref W))) (eW : H W = some (.lst (ws.map V.str))) (he : ∀ R : VK, R (.int (k : Int)) H → te σ H R)
    (q : ∀ A H', Same H H' → H' A = some (.lst ((ws.drop k).map V.str)) → Q (.ref A) H') : tSl (rSlL K) (tVar i) (tPart te) tNoPart σ H Q := by
  refine ⟨_, v, he _ ⟨_, rfl, W, _, rfl, SqL.of eW, fun A nA => ?_⟩⟩
  rw [cut_drop, ← List.map_drop]
  exact q A _ (same_new nA) upd_same
theorem cat_ok {H : Hp} {Q : VK} {A B : Addr} {xs ys : List Str} (eA : H A = some (.lst (xs.map V.str))) (eB : H B = some (.lst (ys.map V.str))) (few : xs.length + ys.length ≤ 5000)
    (q : ∀ C H', Same H H' → H' C = some (.lst ((xs ++ ys).map V.str)) → Q (.ref C) H') : rCat (.ref A) (.ref B) H Q := by
  refine ⟨A, B, _, _, rfl, rfl, eA, eB, by rw [List.length_map, List.length_map, sizeLine_eq]; omega, fun C nC => ?_⟩
  rw [← List.map_append]
  exact q C _ (same_new nC) upd_same
def oddL : List Str := ["", "a", "b", "zz", "k", "0", "1", "2", "-1", "-0", "01", "+1", "8", ",", "-", ";", Txt.mul "9" 60, "1\n"]
theorem odd_ok : ∀ w ∈ oddL, w.length ≤ 60 ∧ (32 : Nat) ∉ tl w ∧ PyData.strOk w = true := by
  have z : (oddL.all fun w => decide (w.length ≤ 60) && (decide ((32 : Nat) ∉ tl w) && PyData.strOk w)) = true := by decide +kernel
  intro w hw
  have y := List.all_eq_true.mp z w hw
  obtain ⟨a, y⟩ := Bool.and_eq_true_iff.mp y
  obtain ⟨b, y⟩ := Bool.and_eq_true_iff.mp y
  exact ⟨of_decide_eq_true a, of_decide_eq_true b, y⟩
theorem sl_mid {K : PySem.W.Frag} {σ : L2.St} {H : Hp} {Q : VK} {W : Addr} {ws : List Str} {i k m : Nat} {te tu : TE} (v : σ[i]? = some (some (.ref W))) (eW : H W = some (.lst (ws.map V.str))) (hk : k ≤ ws.length) (he : ∀ R : VK, R (.int (k : Int)) H → te σ H R) (hu : ∀ R : VK, R (.int (m : Int)) H → tu σ H R)
    (q : ∀ A H', Same H H' → H' A = some (.lst (((ws.drop k).take (m - k)).map V.str)) → Q (.ref A) H') : tSl (rSlL K) (tVar i) (tPart te) (tPart tu) σ H Q := by
  refine ⟨_, v, he _ ⟨_, rfl, hu _ ⟨_, rfl, W, _, rfl, SqL.of eW, fun A nA => ?_⟩⟩⟩
  rw [cut_mid _ (by rw [List.length_map]; exact hk), ← List.map_drop, ← List.map_take]
  exact q A _ (same_new nA) upd_same
/-- _law_bent(pen, page) -/
def spLBent : Sp := fun vs H Q _ => ∃ (p l : Addr) (ns : List Int) (a r : Int) (t : Str) (n c L : Nat), vs = [.ref p, .str t] ∧ PenAt H p l ns a r ∧ a ≤ 90000 ∧ Pg n c L t ∧ 30 ≤ n ∧ n ≤ 300 ∧ c ≤ 900 ∧ L ≤ 50000 ∧
  ∀ H' a' r' x, Keep p H H' → PenAt H' p l ns a' r' → a' ≤ a + 5 → Pg (2 * n + 1) (c + 1) (L + c + n + 70) x → Q (.str x) H'
section
variable {P : Program} {w : World} {K : PySem.W.Frag} {mg : Str → Option Value} {base : Heap} {fd : FuncData}
theorem ok_law_bent (T : Top w K mg) (D_law_draw : Def P w K mg base "_law_draw" 1 ["_law_pen_here", "_law_many"] spDraw) (D_law_pick : Def P w K mg base "_law_pick" 2 ["_law_pen_here", "_law_some_here"] spPick) (F : Fn K "_law_bent" s_law_bent fd) : FnOk P w K mg base CX0 3 (He.ga K "_law_bent") fd ["_law_pen_here", "_law_page"] spLBent := by
  refine F.ok sc_law_bent (fun vs H Q E h => ?_) (fun cdv A outer s H vs Q E hr h => ?_)
  · obtain ⟨p, l, ns, a, r, t, n, c, L, rfl, _⟩ := h
    rfl
  · obtain ⟨p, l, ns, a, r, t, n, c, L, rfl, pa, ha, pg, n30, n300, hc, hL, k⟩ := h
    have hu := hr.units
    refine ⟨_, PSs.nox (pss_cons (ps_par (i := 4) (j := 5) (by rfl) sc_law_bent.nd rfl rfl (by decide) rfl rfl (pa_cons (pe_bm PySem.F.plainAttrs_str PySem.F.slot_str_split PySem.F.type_str_split mt_split (pv 1) (pa_cons pe_str pa_nil)) (pa_cons (pe_callD D_law_draw (hr.mono (by decide)) rfl (pa_cons (pv 0) (pa_cons pe_int pa_nil))) pa_nil)) (by rfl))
      (pss_cons (ps_set (i := 2) sc_law_bent.nd rfl (by first | exact Or.inl rfl | exact Or.inr rfl) (pe_callD D_law_draw (hr.mono (by decide)) rfl (pa_cons (pv 0) (pa_cons (pe_callB (call_lenK (K := K) rfl) rfl T.n_len (by decide +kernel) (pa_cons (pv 4) pa_nil)) pa_nil))))
      (pss_cons (ps_set (i := 3) sc_law_bent.nd rfl (by first | exact Or.inl rfl | exact Or.inr rfl) (pe_lstN (pa_cons pe_str (pa_cons pe_str (pa_cons pe_str (pa_cons pe_str (pa_cons pe_str (pa_cons pe_str (pa_cons pe_str (pa_cons pe_str (pa_cons pe_str (pa_cons pe_str (pa_cons pe_str (pa_cons pe_str (pa_cons pe_str (pa_cons pe_str (pa_cons pe_str (pa_cons pe_str (pa_cons (pe_op op_times pe_str pe_int) (pa_cons pe_str pa_nil))))))))))))))))))))
      (pss_cons (ps_if (pt_cmpR op_lt (pv 5) pe_int (nomark _)) (pss_one (ps_ret (pe_bm PySem.F.plainAttrs_str PySem.F.slot_str_join PySem.F.type_str_join mt_join pe_str (pa_cons (pe_op op_cat (pe_op op_cat (pe_slice sl_list (pv 4) po_none (po_some (pv 2))) (pe_lstN (pa_cons (pe_callD D_law_pick (hr.mono (by decide)) rfl (pa_cons (pv 0) (pa_cons (pv 3) pa_nil))) pa_nil))) (pe_slice sl_list (pv 4) (po_some (pe_op op_plus (pv 2) (pv 5))) po_none)) pa_nil)))) pss_nil)
      (pss_cons (ps_if (pt_cmpR (op_sameK (K := K) rfl hu) (pv 5) pe_int (nomark _)) (pss_one (ps_ret (pe_bm PySem.F.plainAttrs_str PySem.F.slot_str_join PySem.F.type_str_join mt_join pe_str (pa_cons (pe_op op_cat (pe_slice sl_list (pv 4) po_none (po_some (pv 2))) (pe_slice sl_list (pv 4) (po_some (pe_op op_plus (pv 2) pe_int)) po_none)) pa_nil)))) pss_nil)
      (pss_cons (ps_if (pt_cmpR (op_sameK (K := K) rfl hu) (pv 5) pe_int (nomark _)) (pss_one (ps_ret (pe_bm PySem.F.plainAttrs_str PySem.F.slot_str_join PySem.F.type_str_join mt_join pe_str (pa_cons (pe_op op_cat (pe_slice sl_list (pv 4) po_none (po_some (pe_op op_plus (pv 2) pe_int))) (pe_slice sl_list (pv 4) (po_some (pv 2)) po_none)) pa_nil)))) pss_nil)
      (pss_cons (ps_if (pt_cmpR (op_sameK (K := K) rfl hu) (pv 5) pe_int (nomark _)) (pss_one (ps_ret (pe_bm PySem.F.plainAttrs_str PySem.F.slot_str_join PySem.F.type_str_join mt_join pe_str (pa_cons (pe_op op_cat (pe_op op_cat (pe_slice sl_list (pv 4) po_none (po_some (pv 2))) (pe_revL (pe_slice sl_list (pv 4) (po_some (pv 2)) (po_some (pe_op op_plus (pv 2) pe_int))))) (pe_slice sl_list (pv 4) (po_some (pe_op op_plus (pv 2) pe_int)) po_none)) pa_nil)))) pss_nil)
      (pss_cons (ps_par (i := 6) (j := 7) (by rfl) sc_law_bent.nd rfl rfl (by decide) rfl rfl (pa_cons (pe_callD D_law_pick (hr.mono (by decide)) rfl (pa_cons (pv 0) (pa_cons (pe_lstN (pa_cons pe_str (pa_cons pe_str (pa_cons pe_str (pa_cons pe_str (pa_cons pe_str (pa_cons pe_str (pa_cons pe_str pa_nil)))))))) pa_nil))) (pa_cons (pe_callD D_law_draw (hr.mono (by decide)) rfl (pa_cons (pv 0) (pa_cons (pe_op op_plus (pe_callB (call_lenK (K := K) rfl) rfl T.n_len (by decide +kernel) (pa_cons (pv 1) pa_nil)) pe_int) pa_nil))) pa_nil)) (by rfl))
      (pss_one (ps_ret (pe_op op_plus (pe_op op_plus (pe_slice sl_str (pv 1) po_none (po_some (pv 7))) (pv 6)) (pe_slice sl_str (pv 1) (po_some (pe_op op_plus (pv 7) (pe_callD D_law_draw (hr.mono (by decide)) rfl (pa_cons (pv 0) (pa_cons pe_int pa_nil))))) po_none)))))))))))), ?_⟩
    obtain ⟨wb, wlen, wsum, wne⟩ := pg.words
    have wpos : 0 < (Txt.split t " ").length := List.length_pos_iff.mpr wne
    with_reducible refine seqU ?_
    have wshort : ∀ w ∈ Txt.split t " ", w.length ≤ n := fun w hw => (wb w hw).1
    generalize hws : Txt.split t " " = ws at wb wlen wsum wne wpos wshort
    have lt := pg.len
    refine ⟨_, rfl, rfl, _, _, rfl, rfl, by decide +kernel, by rw [sizeLine_eq]; omega, fun W nW => ?_⟩
    rw [hws]
    have sW := same_new (o := .lst (ws.map V.str)) nW
    have eW0 : (upd H W (.lst (ws.map V.str))) W = some (.lst (ws.map V.str)) := upd_same
    have nWp : W ≠ p := fun z => by rw [z, pa.pen] at nW; cases nW
    generalize upd H W (.lst (ws.map V.str)) = H0 at sW eW0 ⊢
    refine ⟨_, rfl, p, l, ns, a, r, 6, rfl, pa.same sW, by omega, by decide, by decide, fun H1 a1 r1 kd k1 p1 l1 d0 d1 => ⟨_, _, rfl, ?_⟩⟩
    have eW1 := k1 _ _ nWp eW0
    show tSeq _ _ _ [some (.ref p), some (.str t), none, none, some (.ref W), some (.int kd), none, none] H1
    refine nxwU ?_
    with_reducible refine seqU ?_
    with_reducible refine setU ?_
    have wl : (ws.map V.str).length = ws.length := List.length_map ..
    refine ⟨_, rfl, _, rfl, _, _, rfl, len_sq (.inr (SqL.of eW1)), p, l, ns, a1, r1, _, rfl, p1, by omega, by rw [wl]; omega, by rw [wl]; omega, fun H2 a2 r2 at_ k2 p2 l2 e0 e1 => ?_⟩
    rw [wl] at e1
    obtain ⟨i, rfl⟩ := Int.eq_ofNat_of_zero_le e0
    have hi : i < ws.length := by omega
    have eW2 := k2 _ _ nWp eW1
    show tSeq _ _ _ [some (.ref p), some (.str t), some (.int (i : Int)), none, some (.ref W), some (.int kd), none, none] H2
    refine nxwU ?_
    with_reducible refine seqU ?_
    with_reducible refine setU ?_
    refine .inr (.inr ⟨_, _, rfl, rfl, ⟨by decide, fun _ _ => by decide +kernel, fun _ _ => by decide +kernel⟩, (by decide : (18 : Nat) ≤ sizeLine), fun O nO _ => ?_⟩)
    have sO := same_new (o := .lst (oddL.map V.str)) nO
    have eO3 : (upd H2 O (.lst (oddL.map V.str))) O = some (.lst (oddL.map V.str)) := upd_same
    have nOp : O ≠ p := fun z => by rw [z, p2.pen] at nO; cases nO
    show tSeq _ _ _ [some (.ref p), some (.str t), some (.int (i : Int)), some (.ref O), some (.ref W), some (.int kd), none, none] (upd H2 O (.lst (oddL.map V.str)))
    have eW3 := sO _ _ eW2
    have p3 := p2.same sO
    generalize upd H2 O (.lst (oddL.map V.str)) = H3 at sO eO3 eW3 p3 ⊢
    have kp3 : Keep p H H3 := (((Keep.of sW).trans k1).trans k2).trans (Keep.of sO)
    have lsp : (" " : Str).length = 1 := by decide +kernel
    have fin : ∀ (ys : List Str) (G : Addr) (HG : Hp) (a' r' : Int), WB (2 * n + 1) ys → ys.length ≤ c + 2 → sumL2 ys ≤ L + n + 60 → Keep p H HG → PenAt HG p l ns a' r' → a' ≤ a + 5 → HG G = some (.lst (ys.map V.str)) →
        ∃ (aa : Str) (pp : Addr) (yy : List Str), V.str " " = V.str aa ∧ [V.ref G] = [V.ref pp] ∧ (SqL K HG pp (yy.map V.str) ∨ SqT K HG pp (yy.map V.str)) ∧ (yy.map (·.length)).sum + yy.length * aa.length ≤ 16777216 ∧ Q (V.str (Txt.join aa yy)) HG := by
      intro ys G HG a' r' wy ly sy kk pp la eG
      have sy' : (ys.map (·.length)).sum ≤ L + n + 60 := sy
      refine ⟨" ", G, ys, rfl, rfl, .inl (SqL.of eG), by rw [lsp]; omega, k HG a' r' _ kk pp la (wy.page (by omega) (by omega))⟩
    refine nxwU ?_
    with_reducible refine seqU ?_
    with_reducible refine ifU ?_
    refine ⟨_, rfl, _, _, rfl, rfl, _, rfl, ?_⟩
    refine ite2 (fun ck => ?_) (fun ck => ?_)
    · have kd2 : kd < 2 := of_decide_eq_true ck
      obtain ⟨kn, rfl⟩ := Int.eq_ofNat_of_zero_le d0
      with_reducible refine retU ?_
      refine ⟨rfl, ?_⟩
      with_reducible refine consU1 ?_
      with_reducible refine opU ?_
      with_reducible refine opU ?_
      with_reducible refine sl_take (k := i) rfl eW3 (fun R r => ?_) fun A HA nA sA eA => ?_
      · exact ⟨_, rfl, r⟩
      have pA := p3.same sA
      refine ⟨_, rfl, _, rfl, p, l, O, ns, a2, r2, _, rfl, pA, by omega, sA _ _ eO3, nOp, (by decide : 0 < 18), (by decide : 18 < 1000000), fun HB a5 r5 v k5 p5 l5 hv => ?_⟩
      obtain ⟨w0, hw0, rfl⟩ := List.mem_map.mp hv
      have nAp : A ≠ p := fun z => by rw [z, p3.pen] at nA; cases nA
      refine ⟨(by decide : (1 : Nat) ≤ sizeLine), fun B nB _ => ?_⟩
      have sB := same_new (o := .lst [V.str w0]) nB
      have eA5 := sB _ _ (k5 _ _ nAp eA)
      have lti : (ws.take i).length ≤ ws.length := by rw [List.length_take]; omega
      with_reducible refine cat_ok (ys := [w0]) eA5 upd_same (by simp only [List.length_cons, List.length_nil]; omega) fun C HC sC eC => ?_
      have eWC := sC _ _ (sB _ _ (k5 _ _ nWp (sA _ _ eW3)))
      with_reducible refine sl_drop (k := i + kn) rfl eWC (fun R r => ?_) fun D HD sD eD => ?_
      · exact ⟨_, rfl, _, rfl, .inl ⟨_, _, rfl, rfl, r⟩⟩
      have ltd : (ws.drop (i + kn)).length ≤ ws.length := by rw [List.length_drop]; omega
      refine cat_ok (sD _ _ eC) eD (by rw [List.length_append]; simp only [List.length_cons, List.length_nil]; omega) fun G HG sG eG => ?_
      have o0 := odd_ok w0 hw0
      have st := sum_take ws i
      have sd := sum_drop_le ws (Nat.le_add_right i kn)
      refine fin _ G HG a5 r5 ?_ ?_ ?_ ?_ ((((p5.same sB).same sC).same sD).same sG) (by omega) eG
      · refine ((wb.sub fun _ h => List.mem_of_mem_take h).mono (by omega)).app ?_ |>.app ((wb.sub fun _ h => List.mem_of_mem_drop h).mono (by omega))
        intro w hw
        rw [List.mem_singleton.mp hw]
        exact ⟨by omega, o0.2⟩
      · rw [List.length_append, List.length_append, List.length_take, List.length_drop]
        simp only [List.length_cons, List.length_nil]
        omega
      · rw [sum_app, sum_app]
        have e1 : sumL2 [w0] = w0.length := by show w0.length + 0 = _; omega
        rw [e1]
        omega
      · exact (((((kp3.trans (Keep.of sA)).trans k5).trans (Keep.of sB)).trans (Keep.of sC)).trans (Keep.of sD)).trans (Keep.of sG)
    have kd0 : ¬ kd < 2 := fun h => ck (decide_eq_true h)
    refine nxwU ?_
    with_reducible refine seqU ?_
    with_reducible refine ifU ?_
    refine ⟨_, rfl, .inl ⟨rfl, _, rfl, ?_⟩⟩
    refine ite2 (fun ck2 => ?_) (fun ck2 => ?_)
    · with_reducible refine retU ?_
      refine ⟨rfl, ?_⟩
      with_reducible refine consU1 ?_
      with_reducible refine opU ?_
      with_reducible refine sl_take (k := i) rfl eW3 (fun R r => ?_) fun A HA nA sA eA => ?_
      · exact ⟨_, rfl, r⟩
      have eW4 := sA _ _ eW3
      with_reducible refine sl_drop (k := i + 1) rfl eW4 (fun R r => ?_) fun D HD sD eD => ?_
      · exact ⟨_, rfl, .inl ⟨_, _, rfl, rfl, r⟩⟩
      refine cat_ok (sD _ _ eA) eD (by rw [List.length_take, List.length_drop]; omega) fun G HG sG eG => ?_
      have st := sum_take ws i
      have sd := sum_drop_le ws (Nat.le_add_right i 1)
      refine fin _ G HG a2 r2 ?_ ?_ ?_ ?_ (((p3.same sA).same sD).same sG) (by omega) eG
      · exact ((wb.sub fun _ h => List.mem_of_mem_take h).mono (by omega)).app ((wb.sub fun _ h => List.mem_of_mem_drop h).mono (by omega))
      · rw [List.length_append, List.length_take, List.length_drop]
        omega
      · rw [sum_app]
        omega
      · exact ((kp3.trans (Keep.of sA)).trans (Keep.of sD)).trans (Keep.of sG)
    refine nxwU ?_
    with_reducible refine seqU ?_
    with_reducible refine ifU ?_
    refine ⟨_, rfl, .inl ⟨rfl, _, rfl, ?_⟩⟩
    refine ite2 (fun ck3 => ?_) (fun ck3 => ?_)
    · with_reducible refine retU ?_
      refine ⟨rfl, ?_⟩
      with_reducible refine consU1 ?_
      with_reducible refine opU ?_
      with_reducible refine sl_take (k := i + 1) rfl eW3 (fun R r => ?_) fun A HA nA sA eA => ?_
      · exact ⟨_, rfl, .inl ⟨_, _, rfl, rfl, r⟩⟩
      have eW4 := sA _ _ eW3
      with_reducible refine sl_drop (k := i) rfl eW4 (fun R r => ?_) fun D HD sD eD => ?_
      · exact ⟨_, rfl, r⟩
      refine cat_ok (sD _ _ eA) eD (by rw [List.length_take, List.length_drop]; omega) fun G HG sG eG => ?_
      have st := sum_take ws i
      have e2 : sumL2 (ws.take (i + 1)) ≤ sumL2 (ws.take i) + n := by
        rw [List.take_succ_eq_append_getElem hi, sum_app]
        have e1 : sumL2 [ws[i]] = ws[i].length := by show ws[i].length + 0 = _; omega
        have := wshort ws[i] (List.getElem_mem hi)
        omega
      refine fin _ G HG a2 r2 ?_ ?_ ?_ ?_ (((p3.same sA).same sD).same sG) (by omega) eG
      · exact ((wb.sub fun _ h => List.mem_of_mem_take h).mono (by omega)).app ((wb.sub fun _ h => List.mem_of_mem_drop h).mono (by omega))
      · rw [List.length_append, List.length_take, List.length_drop]
        omega
      · rw [sum_app]
        omega
      · exact ((kp3.trans (Keep.of sA)).trans (Keep.of sD)).trans (Keep.of sG)
    refine nxwU ?_
    with_reducible refine seqU ?_
    with_reducible refine ifU ?_
    refine ⟨_, rfl, .inl ⟨rfl, _, rfl, ?_⟩⟩
    refine ite2 (fun ck4 => ?_) (fun ck4 => ?_)
    · with_reducible refine retU ?_
      refine ⟨rfl, ?_⟩
      with_reducible refine consU1 ?_
      with_reducible refine opU ?_
      with_reducible refine opU ?_
      with_reducible refine sl_take (k := i) rfl eW3 (fun R r => ?_) fun A HA nA sA eA => ?_
      · exact ⟨_, rfl, r⟩
      have eW4 := sA _ _ eW3
      show tSl _ _ _ _ _ _ _
      with_reducible refine sl_mid (k := i) (m := i + 2) rfl eW4 (Nat.le_of_lt hi) (fun R r => ?_) (fun R r => ?_) fun B HB sB eB => ?_
      · exact ⟨_, rfl, r⟩
      · exact ⟨_, rfl, .inl ⟨_, _, rfl, rfl, r⟩⟩
      refine ⟨B, _, rfl, SqL.of eB, fun R nR => ?_⟩
      rw [← List.map_reverse]
      have sR := same_new (o := .lst (((ws.drop i).take (i + 2 - i)).reverse.map V.str)) nR
      have eR : (upd HB R (.lst (((ws.drop i).take (i + 2 - i)).reverse.map V.str))) R = some (.lst (((ws.drop i).take (i + 2 - i)).reverse.map V.str)) := upd_same
      have eA5 := sR _ _ (sB _ _ eA)
      have eW5 := sR _ _ (sB _ _ eW4)
      generalize upd HB R (.lst (((ws.drop i).take (i + 2 - i)).reverse.map V.str)) = HR at sR eR eA5 eW5 ⊢
      have e22 : i + 2 - i = 2 := by omega
      rw [e22] at eR
      have lm : ((ws.drop i).take 2).reverse.length ≤ 2 := by rw [List.length_reverse, List.length_take]; omega
      refine cat_ok eA5 eR (by rw [List.length_take]; omega) fun C HC sC eC => ?_
      have eW6 := sC _ _ eW5
      show tSl _ _ _ _ _ _ _
      with_reducible refine sl_drop (k := i + 2) rfl eW6 (fun R r => ?_) fun D HD sD eD => ?_
      · exact ⟨_, rfl, .inl ⟨_, _, rfl, rfl, r⟩⟩
      refine cat_ok (sD _ _ eC) eD (by rw [List.length_append, List.length_take, List.length_drop]; omega) fun G HG sG eG => ?_
      have st := sum_take ws i
      have st2 := sum_take (ws.drop i) 2
      rw [List.drop_drop] at st2
      have srv : sumL2 ((ws.drop i).take 2).reverse = sumL2 ((ws.drop i).take 2) := by
        unfold sumL2
        rw [List.map_reverse]
        exact List.sum_reverse _
      refine fin _ G HG a2 r2 ?_ ?_ ?_ ?_ (((((p3.same sA).same sB).same sR).same sC).same sD |>.same sG) (by omega) eG
      · refine WB.app (WB.app ((wb.sub fun _ h => List.mem_of_mem_take h).mono (by omega)) ?_) ((wb.sub fun _ h => List.mem_of_mem_drop h).mono (by omega))
        exact (wb.sub fun _ h => List.mem_of_mem_drop (List.mem_of_mem_take (List.mem_reverse.mp h))).mono (by omega)
      · rw [List.length_append, List.length_append, List.length_reverse, List.length_take, List.length_take, List.length_drop, List.length_drop]
        omega
      · rw [sum_app, sum_app, srv]
        omega
      · exact (((((kp3.trans (Keep.of sA)).trans (Keep.of sB)).trans (Keep.of sR)).trans (Keep.of sC)).trans (Keep.of sD)).trans (Keep.of sG)
    refine nxwU ?_
    with_reducible refine seqU ?_
    refine ⟨_, rfl, (by decide : (7 : Nat) ≤ sizeLine), fun S nS _ => ⟨p, l, S, ns, a2, r2, _, rfl, p3.same (same_new nS), by omega, upd_same, (fun z => by rw [z, p3.pen] at nS; cases nS), (by decide : 0 < 7), (by decide : 7 < 1000000), fun H5 a5 r5 v k5 p5 l5 hv => ?_⟩⟩
    have hv' : ∃ s : Str, v = .str s ∧ s.length ≤ 1 ∧ PyData.strOk s = true := by
      simp only [List.mem_cons, List.not_mem_nil, or_false] at hv
      rcases hv with rfl | rfl | rfl | rfl | rfl | rfl | rfl <;> exact ⟨_, rfl, by decide +kernel, by decide +kernel⟩
    obtain ⟨sg, rfl, lsg, osg⟩ := hv'
    have lstr : t.length ≤ 60000 := by omega
    refine ⟨_, rfl, _, rfl, _, _, rfl, ⟨by rw [sizeLine_eq]; omega, rfl⟩, .inl ⟨_, _, rfl, rfl, p, l, ns, a5, r5, _, rfl, p5, by omega, by omega, by omega, fun H6 a6 r6 cu k6 p6 l6 f0 f1 => ⟨_, _, rfl, ?_⟩⟩⟩
    obtain ⟨cn, rfl⟩ := Int.eq_ofNat_of_zero_le f0
    refine nxwU ?_
    with_reducible refine retU ?_
    have big : sizeLine = 16777216 := sizeLine_eq
    have c1 : (cutS t none (some (cn : Int))).length ≤ t.length := by
      rw [len_tl, cutS_take, List.length_take, ← len_tl]
      omega
    have c2 : ∀ j : Nat, (cutS t (some (j : Int)) none).length ≤ t.length := fun j => by
      rw [len_tl, cutS_drop, List.length_drop, ← len_tl]
      omega
    refine ⟨_, rfl, _, rfl, _, rfl, t, rfl, by omega, _, rfl, .inr (.inr ⟨_, _, rfl, rfl, by omega, ?_⟩)⟩
    refine ⟨_, rfl, _, rfl, _, rfl, p, l, ns, a6, r6, 2, rfl, p6, by omega, by decide, by decide, fun H7 a7 r7 dj k7 p7 l7 g0 g1 => ?_⟩
    obtain ⟨jn, rfl⟩ := Int.eq_ofNat_of_zero_le g0
    refine .inl ⟨_, _, rfl, rfl, _, rfl, t, rfl, by omega, .inr (.inr ⟨_, _, rfl, rfl, ?_, ?_⟩)⟩
    · have e : ∀ j : Int, j = ((cn + jn : Nat) : Int) → (cutS t none (some (cn : Int)) ++ sg).length + (cutS t (some j) none).length ≤ sizeLine := fun j hj => by
        rw [hj, len_app]
        have := c2 (cn + jn)
        omega
      exact e _ (by push_cast; rfl)
    · have e : ∀ j : Int, j = ((cn + jn : Nat) : Int) → Q (.str (cutS t none (some (cn : Int)) ++ sg ++ cutS t (some j) none)) H7 := fun j hj => by
        rw [hj]
        refine k H7 a7 r7 _ ?_ p7 (by omega) ((pg.cut (Nat.le_add_right cn jn) lsg osg).mono (Nat.le_refl _) (Nat.le_refl _) (by omega))
        exact (((kp3.trans (Keep.of (same_new nS))).trans k5).trans k6).trans k7
      exact e _ (by push_cast; rfl)
end
end L2.K19
set_option Elab.async false
set_option linter.all false
set_option maxRecDepth 100000
set_option maxHeartbeats 4000000
/-! What a call returns, or is refused with. -/
namespace L2.K19
open PySem PySem.Spec PyProof.Rows L2.RV
/-- what an error is told as -/
def HeardE (K : PySem.W.Frag) (Q : VK) : XK := fun cls d H' => ∃ dd, d = some dd ∧
  ((cls = .ref (ca K 6) ∧ ∃ v, ErrX H' dd [("part", v)] ∧ ∀ H2 t, Same H' H2 → H2 t = some (.tup [.str "BadQuestion", v]) → Q (.ref t) H2) ∨
   (cls = .ref (ca K 10) ∧ ∃ a b, ErrX H' dd [("line", a), ("word", b)] ∧ ∀ H2 t, Same H' H2 → H2 t = some (.tup [.str "BadText", a, b]) → Q (.ref t) H2))
/-- _law_heard(lambda: ..) -/
def THeard (K : PySem.W.Frag) : (XK → Hp → VK → Prop) → Hp → VK → Prop := fun tl H Q =>
  ∀ H0 R, Same H H0 → (∀ v H', (∀ r, H' r = none → Q (.ref r) (upd H' r (.lst [v]))) → R v H') → tl (HeardE K Q) H0 R
theorem free_same {H H' : Hp} {b : Addr} (s : Same H H') (n : H' b = none) : H b = none := by
  cases c : H b with
  | none => rfl
  | some o =>
    rw [s _ _ c] at n
    cases n
abbrev nHeard : List Str := ["_law_ask", "error", "_law_some_here", "_law_caught", "_law_found"]
section
variable {X : Cx}
theorem takes_len {W : WX} {n : Nat} (tk : Takes X W) (hn : X.N.length = n) : Takes X fun cls d σ H => σ.length = n → W cls d σ H := fun e s' h => by
  obtain ⟨a, B, sI, pins, σ, H, cls, d, e1, I, e2, e3, e4, e5, e6, e7, q⟩ := h
  exact tk e s' ⟨a, B, sI, pins, σ, H, cls, d, e1, I, e2, e3, e4, e5, e6, e7, q (by rw [I.len, hn])⟩
theorem heard_gives (T : Top X.w X.K X.mg) (TK : TopK X.K) (fP : PySem.W.findIn X.K (.ref (ca X.K 6)) "part" = some none) (fL : PySem.W.findIn X.K (.ref (ca X.K 10)) "line" = some none) (fW : PySem.W.findIn X.K (.ref (ca X.K 10)) "word" = some none) (hgu : X.A.guards = some []) (hr : Room 1 X.A) {g : Addr} {cdg : Value} {q : Str} : LamX.GivesTo X nHeard "_law_heard" (defScope s_law_heard) g cdg (defBody s_law_heard) "_law_ask" q (THeard X.K) := by
  intro f c' s H Q tl act hc h
  have hu := (hr.deeper (envOfC "_law_heard" (defScope s_law_heard) s.heap.objs.size g cdg)).units
  refine ⟨_, (pss_cons (ps_asg (pe_tup (pa_cons pe_non (pa_cons pe_non pa_nil))) (pg_tup rfl (pgs_cons (pg_name (i := 3) sc_law_heard.nd rfl (by first | exact Or.inl rfl | exact Or.inr rfl)) (pgs_cons (pg_name (i := 4) sc_law_heard.nd rfl (by first | exact Or.inl rfl | exact Or.inr rfl)) pgs_nil))))
      (pss_cons (ps_try_keep (X := (cxOf C8.CX0 X.prog X.w X.K X.mg X.base nHeard "_law_heard" (defScope s_law_heard) g cdg X.A X.stack s H C8.E0).nox) (c := .ref (ca X.K 0)) (i := 1) (n := "error") (Wout := fun _ _ _ _ => False)
        (tb := fun W D σ H => ∃ Ech : XK, (∀ cls d σ' H', σ'.length = 5 → Ech cls d H' → W cls d σ' H') ∧ σ[0]? = some (some (.ref f)) ∧ H c' = some (LamX.CodeO c' q) ∧ tl Ech H fun v H1 => D.nx (σ.set 4 (some v)) H1)
        rfl rfl rfl sc_law_heard.nd rfl rfl ⟨rfl, by decide, .inl T.c_VaultError⟩ LamX.takes0 (fun W pn xe tk _ => ⟨fun pins s' σ H' D I h' => by
          obtain ⟨Ech, hW, h1, h2, h3⟩ := h'
          exact (pss_one (ps_set (i := 4) sc_law_heard.nd rfl (by first | exact Or.inl rfl | exact Or.inr rfl) (act (fun cls d σ H => σ.length = 5 → W cls d σ H) pn xe Ech _ _ (takes_len tk rfl) fun cls d σ' H' he hl => hW cls d σ' H' hl he))).run pins s' σ H' D I ⟨h1, h2, h3⟩⟩) (fun a oe cls d pn _ _ => (pss_one (ps_set (i := 3) sc_law_heard.nd rfl (by first | exact Or.inl rfl | exact Or.inr rfl) (pv 1)))))
      (pss_cons (ps_if (pt_cmpR op_isN (pv 3) pe_non (nomark _)) (pss_one (ps_ret (pe_lstN (pa_cons (pv 4) pa_nil)))) pss_nil)
      (pss_cons (ps_set (i := 2) sc_law_heard.nd rfl (by first | exact Or.inl rfl | exact Or.inr rfl) (pe_lstN pa_nil))
      (pss_cons (ps_if (pt_val (pe_callB call_isK rfl T.n_isinstance (by decide +kernel) (pa_cons (pv 3) (pa_cons (pe_glob (v := .ref (ca X.K 6)) rfl T.c_BadQuestion rfl) pa_nil)))) (pss_one (ps_expr (pe_bm PySem.F.plainAttrs_list PySem.F.slot_list_append PySem.F.type_list_append mt_append (pv 2) (pa_cons (pe_tup (pa_cons pe_str (pa_cons (pe_errK (pv 3)) pa_nil))) pa_nil)))) pss_nil)
      (pss_cons (ps_if (pt_val (pe_callB call_isK rfl T.n_isinstance (by decide +kernel) (pa_cons (pv 3) (pa_cons (pe_glob (v := .ref (ca X.K 10)) rfl T.c_BadText rfl) pa_nil)))) (pss_one (ps_expr (pe_bm PySem.F.plainAttrs_list PySem.F.slot_list_append PySem.F.type_list_append mt_append (pv 2) (pa_cons (pe_tup (pa_cons pe_str (pa_cons (pe_errK (pv 3)) (pa_cons (pe_errK (pv 3)) pa_nil)))) pa_nil)))) pss_nil)
      (pss_one (ps_ret (pe_ifExp (PW.pt (pw_and (pt_cmpR (op_same hu) (pe_callB call_len rfl T.n_len (by decide +kernel) (pa_cons (pv 2) pa_nil)) pe_int (nomark _)) (pw_and1 (pt_val (pe_callB call_isK rfl T.n_isinstance (by decide +kernel) (pa_cons (pv 3) (pa_cons (pe_bltn (v := .ty "ValueError") (u := .type "ValueError") rfl T.n_ValueError (by decide +kernel) rfl) pa_nil))))))) (pe_ix ix_seq (pv 2) pe_int (fun _ _ => rfl)) (pe_tup (pa_cons pe_str pa_nil))))))))))), ?_⟩
  refine ⟨(by decide : (2 : Nat) ≤ sizeLine), fun t nt => ⟨t, _, rfl, SqT.of upd_same, rfl, _, _, rfl, _, _, rfl, rfl, ?_⟩⟩
  have s1 := same_new (o := .tup [.non, .non]) nt
  refine ⟨HeardE X.K Q, fun cls d σ' H' hl he => ?_, rfl, s1 _ _ hc, ?_⟩
  · obtain ⟨x0, x1, x2, x3, x4, rfl⟩ : ∃ x0 x1 x2 x3 x4, σ' = [x0, x1, x2, x3, x4] := by
      match σ', hl with
      | [x0, x1, x2, x3, x4], _ => exact ⟨x0, x1, x2, x3, x4, rfl⟩
    obtain ⟨dd, rfl, he⟩ := he
    rcases he with ⟨rfl, v, ex, k⟩ | ⟨rfl, v1, v2, ex, k⟩
    · refine ⟨true, TK.exm 6 (by decide), fun _ a na => ⟨_, rfl, fun na' => ?_⟩, fun z => nomatch z⟩
      have ek := ex.caught (C := ca X.K 6) na'
      have sa := same_new (o := exk (.ref (ca X.K 6)) (some dd) a) na'
      refine ⟨_, rfl, rfl, _, rfl, ?_⟩
      refine ite2 (fun z => absurd (of_decide_eq_true z) (fun q => nomatch q)) (fun _ => ?_)
      generalize upd H' a (exk (.ref (ca X.K 6)) (some dd) a) = H1 at sa ek ⊢
      refine nxwU ?_
      with_reducible refine seqU ?_
      with_reducible refine setU ?_
      refine ⟨(by decide : (0 : Nat) ≤ sizeLine), fun L nL _ => ?_⟩
      show tSeq _ _ _ [x0, none, some (.ref L), some (.ref a), x4] _
      have sL := same_new (o := .lst []) nL
      have eL : (upd H1 L (.lst [])) L = some (.lst []) := upd_same
      have nLH : H' L = none := free_same sa nL
      have ek1 := ek.same sL
      have s1L := sa.trans sL
      generalize upd H1 L (.lst []) = H3 at eL ek1 s1L ⊢
      refine nxwU ?_
      with_reducible refine seqU ?_
      with_reducible refine ifU ?_
      refine ⟨_, rfl, a, ca X.K 6, _, _, .ref (ca X.K 6), true, rfl, ek1, (T.ex 6 (by decide)).1, fun u r => by cases r; rfl, TK.kin 6 (by decide) 6 (by decide), _, rfl, ?_⟩
      refine ite2 (fun _ => ?_) (fun z => absurd rfl z)
      · refine ⟨_, rfl, .inl ⟨rfl, _, SqL.of eL⟩, ?_⟩
        refine ⟨_, rfl, a, ca X.K 6, _, v, rfl, ek1, (T.ex 6 (by decide)).2, fP, rfl, (by decide : (2 : Nat) ≤ sizeLine), fun t2 nt2 => ⟨L, _, _, rfl, rfl, same_new nt2 _ _ eL, (by decide : (0 : Nat) < sizeLine), ?_⟩⟩
        have st2 := same_new (o := .tup [.str "BadQuestion", v]) nt2
        have s12 := s1L.trans st2
        have ne2 : t2 ≠ L := fun z => by rw [z, eL] at nt2; cases nt2
        have ek2 := ek1.same st2
        have et2 : (upd (upd H3 t2 (.tup [.str "BadQuestion", v])) L (.lst [V.ref t2])) t2 = some (.tup [.str "BadQuestion", v]) := (upd_ne ne2).trans upd_same
        have eL2 : (upd (upd H3 t2 (.tup [.str "BadQuestion", v])) L (.lst [V.ref t2])) L = some (.lst [.ref t2]) := upd_same
        have s13 := same_put (o := .lst [V.ref t2]) s12 nLH
        have ek3 : ErrK (upd (upd H3 t2 (.tup [.str "BadQuestion", v])) L (.lst [V.ref t2])) a (ca X.K 6) [("part", v)] := by
          obtain ⟨d3, q1, fs3, q2, q3⟩ := ek2
          have n1 : a ≠ L := fun z => by rw [z, st2 _ _ eL] at q1; cases q1
          have n2 : d3 ≠ L := fun z => by rw [z, st2 _ _ eL] at q2; cases q2
          exact ⟨d3, (upd_ne n1).trans q1, fs3, (upd_ne n2).trans q2, q3⟩
        show Ends.nx _ _ (upd (upd H3 t2 (.tup [.str "BadQuestion", v])) L (.lst [V.ref t2]))
        generalize upd (upd H3 t2 (.tup [.str "BadQuestion", v])) L (.lst [V.ref t2]) = H4 at et2 eL2 s13 ek3 ⊢
        refine nxwU ?_
        with_reducible refine seqU ?_
        with_reducible refine ifU ?_
        refine ⟨_, rfl, a, ca X.K 6, _, _, .ref (ca X.K 10), false, rfl, ek3, (T.ex 6 (by decide)).1, fun u r => by cases r; rfl, TK.kin 6 (by decide) 10 (by decide), _, rfl, ?_⟩
        refine ite2 (fun z => nomatch z) (fun _ => ?_)
        refine nxwU ?_
        with_reducible refine retU ?_
        refine ⟨_, rfl, _, _, rfl, len_sq (.inr (SqL.of eL2)), .inl ⟨rfl, _, rfl, ?_⟩⟩
        refine ite2 (fun _ => ?_) (fun z => absurd rfl z)
        refine ⟨_, rfl, a, ca X.K 6, _, _, .type "ValueError", true, rfl, ek3, (T.ex 6 (by decide)).1, fun u r => by cases r; rfl, TK.ve 6 (by decide), _, rfl, ?_⟩
        refine ite2 (fun _ => ?_) (fun z => absurd rfl z)
        exact ⟨_, rfl, ix_sq (.inr (SqL.of eL2)) (atI_nat (j := 0) rfl) (k _ _ s13 et2)⟩
    · refine ⟨true, TK.exm 10 (by decide), fun _ a na => ⟨_, rfl, fun na' => ?_⟩, fun z => nomatch z⟩
      have ek := ex.caught (C := ca X.K 10) na'
      have sa := same_new (o := exk (.ref (ca X.K 10)) (some dd) a) na'
      refine ⟨_, rfl, rfl, _, rfl, ?_⟩
      refine ite2 (fun z => absurd (of_decide_eq_true z) (fun q => nomatch q)) (fun _ => ?_)
      generalize upd H' a (exk (.ref (ca X.K 10)) (some dd) a) = H1 at sa ek ⊢
      refine nxwU ?_
      with_reducible refine seqU ?_
      with_reducible refine setU ?_
      refine ⟨(by decide : (0 : Nat) ≤ sizeLine), fun L nL _ => ?_⟩
      show tSeq _ _ _ [x0, none, some (.ref L), some (.ref a), x4] _
      have sL := same_new (o := .lst []) nL
      have eL : (upd H1 L (.lst [])) L = some (.lst []) := upd_same
      have nLH : H' L = none := free_same sa nL
      have ek1 := ek.same sL
      have s1L := sa.trans sL
      generalize upd H1 L (.lst []) = H3 at eL ek1 s1L ⊢
      refine nxwU ?_
      with_reducible refine seqU ?_
      with_reducible refine ifU ?_
      refine ⟨_, rfl, a, ca X.K 10, _, _, .ref (ca X.K 6), false, rfl, ek1, (T.ex 10 (by decide)).1, fun u r => by cases r; rfl, TK.kin 10 (by decide) 6 (by decide), _, rfl, ?_⟩
      refine ite2 (fun z => nomatch z) (fun _ => ?_)
      refine nxwU ?_
      with_reducible refine seqU ?_
      with_reducible refine ifU ?_
      refine ⟨_, rfl, a, ca X.K 10, _, _, .ref (ca X.K 10), true, rfl, ek1, (T.ex 10 (by decide)).1, fun u r => by cases r; rfl, TK.kin 10 (by decide) 10 (by decide), _, rfl, ?_⟩
      refine ite2 (fun _ => ?_) (fun z => absurd rfl z)
      · refine ⟨_, rfl, .inl ⟨rfl, _, SqL.of eL⟩, ?_⟩
        refine ⟨_, rfl, a, ca X.K 10, _, v1, rfl, ek1, (T.ex 10 (by decide)).2, fL, rfl, _, rfl, a, ca X.K 10, _, v2, rfl, ek1, (T.ex 10 (by decide)).2, fW, rfl, (by decide : (3 : Nat) ≤ sizeLine), fun t2 nt2 => ⟨L, _, _, rfl, rfl, same_new nt2 _ _ eL, (by decide : (0 : Nat) < sizeLine), ?_⟩⟩
        have st2 := same_new (o := .tup [.str "BadText", v1, v2]) nt2
        have s12 := s1L.trans st2
        have ne2 : t2 ≠ L := fun z => by rw [z, eL] at nt2; cases nt2
        have ek2 := ek1.same st2
        have et2 : (upd (upd H3 t2 (.tup [.str "BadText", v1, v2])) L (.lst [V.ref t2])) t2 = some (.tup [.str "BadText", v1, v2]) := (upd_ne ne2).trans upd_same
        have eL2 : (upd (upd H3 t2 (.tup [.str "BadText", v1, v2])) L (.lst [V.ref t2])) L = some (.lst [.ref t2]) := upd_same
        have s13 := same_put (o := .lst [V.ref t2]) s12 nLH
        have ek3 : ErrK (upd (upd H3 t2 (.tup [.str "BadText", v1, v2])) L (.lst [V.ref t2])) a (ca X.K 10) [("line", v1), ("word", v2)] := by
          obtain ⟨d3, q1, fs3, q2, q3⟩ := ek2
          have n1 : a ≠ L := fun z => by rw [z, st2 _ _ eL] at q1; cases q1
          have n2 : d3 ≠ L := fun z => by rw [z, st2 _ _ eL] at q2; cases q2
          exact ⟨d3, (upd_ne n1).trans q1, fs3, (upd_ne n2).trans q2, q3⟩
        show Ends.nx _ _ (upd (upd H3 t2 (.tup [.str "BadText", v1, v2])) L (.lst [V.ref t2]))
        generalize upd (upd H3 t2 (.tup [.str "BadText", v1, v2])) L (.lst [V.ref t2]) = H4 at et2 eL2 s13 ek3 ⊢
        refine nxwU ?_
        with_reducible refine retU ?_
        refine ⟨_, rfl, _, _, rfl, len_sq (.inr (SqL.of eL2)), .inl ⟨rfl, _, rfl, ?_⟩⟩
        refine ite2 (fun _ => ?_) (fun z => absurd rfl z)
        refine ⟨_, rfl, a, ca X.K 10, _, _, .type "ValueError", true, rfl, ek3, (T.ex 10 (by decide)).1, fun u r => by cases r; rfl, TK.ve 10 (by decide), _, rfl, ?_⟩
        refine ite2 (fun _ => ?_) (fun z => absurd rfl z)
        exact ⟨_, rfl, ix_sq (.inr (SqL.of eL2)) (atI_nat (j := 0) rfl) (k _ _ s13 et2)⟩
  · refine h _ _ s1 fun v H' k => ?_
    exact ⟨_, rfl, rfl, _, rfl, _, rfl, (by decide : (1 : Nat) ≤ sizeLine), fun r nr _ => k r nr⟩
end
end L2.K19
set_option Elab.async false
set_option linter.all false
set_option maxRecDepth 100000
set_option maxHeartbeats 4000000
/-! A page is read, or refused, as it must be. -/
namespace L2.K19
open PySem PySem.Spec PyProof.Rows L2.RV
theorem Kx.ext {E : Addr → Prop} {H H' : Hp} (k : LamX.ExtN H H') : Kx E H H' := by
  refine ⟨⟨fun b o f h => k b o h fun ps z => by rw [z] at f; exact f, fun b kvs _ h => ?_, fun b ys h => ?_⟩, fun b _ _ h => k b _ h fun _ z => nomatch z⟩
  · exact h.imp (fun h => k b _ h fun _ z => nomatch z) fun ⟨od, h⟩ => ⟨od, k b _ h fun _ z => nomatch z⟩
  · exact h.imp (fun h => k b _ h fun _ z => nomatch z) fun ⟨od, h⟩ => ⟨od, k b _ h fun _ z => nomatch z⟩
theorem ShapeAt.ext {K : PySem.W.Frag} {H H' : Hp} {a : Addr} {ks : List Str} {d : Nat} (s : ShapeAt K H a ks d) (k : LamX.ExtN H H') : ShapeAt K H' a ks d := s.kp (Kx.ext k).kp
def heardD (e : Int) : PyData := .tuple [.str "BadText", .int 0, .int e]
theorem shaped_heard (e : Int) : SeqAt.shaped (heardD e) = true := by
  have z : PyData.strOk "BadText" = true := by decide +kernel
  have a : PyData.canLay0 (heardD e) = true := by simp [PyData.canLayAll0, PyData.canLay0, heardD, z]
  have d : (heardD e).depth ≤ 64 := by simp [PyData.depth, PyData.depthAll, heardD]
  unfold SeqAt.shaped
  rw [a, decide_eq_true d]
  rfl
def qRight : Str := "_law_right.<locals>.<lambda>"
def qLaw : Str := "law.<locals>.<lambda>"
/-- a page that may be read -/
structure PgOk (t : Str) : Prop where
  tx : TextOk t
  ok : PyData.strOk t = true
theorem Pg.page {n c L : Nat} {t : Str} (p : Pg n c L t) (hn : n ≤ 600) (hc : c < 1000) (hL : L ≤ 60000) : PgOk t := by
  obtain ⟨wb, wl, _, _⟩ := p.words
  exact ⟨⟨Nat.le_trans p.len hL, by omega, fun y hy => Nat.le_trans (wb y hy).1 hn⟩, p.ok⟩
theorem PgOk.wl {t : Str} (p : PgOk t) {H : Hp} {q : Addr} (e : H q = some (.lst ((Txt.split t " ").map V.str))) : WL H q (Txt.split t " ") := ⟨e, p.tx.few, p.tx.short, fun y hy => split_ok p.ok hy⟩
/-- _law_right(shape, page) -/
def spLRight (K : PySem.W.Frag) (TS : List (Addr × Str)) : Sp := fun vs H Q _ => ∃ (s : Addr) (t : Str) (ks : List Str) (d : Nat), vs = [.ref s, .str t] ∧ ShapeAt K H s ks d ∧ PgOk t ∧ LamX.Tabs TS H ∧ ∀ H', LamX.ExtN H H' → LamX.Tabs TS H' → Q (.bl true) H'
section
variable {P : Program} {w : World} {K : PySem.W.Frag} {mg : Str → Option Value} {base : Heap} {fd : FuncData}
theorem ok_law_right {TS : List (Addr × Str)} {PT : Addr} (T : Top w K mg) (TK : TopK K) (fP : PySem.W.findIn K (.ref (ca K 6)) "part" = some none) (fL : PySem.W.findIn K (.ref (ca K 10)) "line" = some none) (fW : PySem.W.findIn K (.ref (ca K 10)) "word" = some none) (D_law_rows_wrong : Def P w K mg base "_law_rows_wrong" 4 ["_law_shape_here", "_law_words"] (spRowsWrong K))
    (S_Question_str : MethS CX0 P w K mg base (He.ga K "Question") "__str__" 6 ["self"] (spQStr K)) (CM_Question_read : CMethX (L2.CX P w) P w K mg base (He.ga K "Question") "read" 10 ["cls", "text", "shape"] ["shape", "text"] (spRead K))
    (L_law_heard : LamD K mg "_law_heard" "_law_ask" s_law_heard) (TB : LamX.TabB base mg (He.codeOf K ("_law_right", none)) PT) (hm : (PT, qRight) ∈ TS) (hq : ∀ p ∈ TS, p.1 = PT → p.2 = qRight) (F : Fn K "_law_right" s_law_right fd) : FnG P w K mg base CX0 13 (He.ga K "_law_right") fd ["_law_shape_here", "_law_page"] (spLRight K TS) := by
  refine okGC (p := ("_law_right", none)) F sc_law_right (fun vs H Q E h => ?_) (fun A outer s H vs Q E hgu hr h => ?_)
  · obtain ⟨sa, t, ks, d, rfl, _⟩ := h
    rfl
  · obtain ⟨sa, t, ks, d, rfl, s0, pg, tabs, k⟩ := h
    have hu := hr.units
    refine ⟨_, PSs.nox (pss_cons (ps_par (i := 2) (j := 3) (by rfl) sc_law_right.nd rfl rfl (by decide) rfl rfl (pa_cons (pe_callD D_law_rows_wrong (hr.mono (by decide)) rfl (pa_cons (pv 0) (pa_cons (pe_bm PySem.F.plainAttrs_str PySem.F.slot_str_split PySem.F.type_str_split mt_split (pv 1) (pa_cons pe_str pa_nil)) pa_nil))) (pa_cons (pe_lamX (k := 10) L_law_heard rfl sc_law_heard rfl (Or.inl rfl) (fun g cdg => heard_gives T TK fP fL fW hgu (hr.mono (by decide))) TB rfl hm hq (hr.mono (by decide)) (LamX.lamS_by (sc := defScope s_law_right) (by decide +kernel)) rfl (fun _ _ _ _ _ => rfl) (fun A2 o2 s2 H2 E2 f2 c2 hr2 => (pe_callTy (call_strO S_Question_str (hr2.mono (by decide)) pass_CX0) rfl T.n_str (by decide +kernel) (pa_cons (pe_cmX CM_Question_read (hr2.mono (by decide)) (passes_call (takes_of rfl rfl rfl rfl) (fun _ _ _ _ h => h)) (pe_glob (v := .ref (He.ga K "Question")) rfl T.g_Question rfl) (pa_cons (pv 1) (pa_cons (pv 0) pa_nil))) pa_nil)))) pa_nil)) (by rfl))
      (pss_one (ps_ret (pe_cmpR (op_sameK (K := K) rfl hu) (pv 3) (pe_ifExp (pt_cmpR op_isN (pv 2) pe_non (nomark _)) (pe_lstN (pa_cons (pv 1) pa_nil)) (pe_tup (pa_cons pe_str (pa_cons pe_int (pa_cons (pv 2) pa_nil))))) (nomark _))))), ?_⟩
    with_reducible refine seqU ?_
    have big := pg.tx.len
    refine ⟨_, rfl, _, rfl, rfl, t, " ", rfl, rfl, by decide +kernel, by rw [sizeLine_eq]; omega, fun q nq => ?_⟩
    have sq := same_new (o := .lst ((Txt.split t " ").map V.str)) nq
    have eq0 : (upd H q (.lst ((Txt.split t " ").map V.str))) q = some (.lst ((Txt.split t " ").map V.str)) := upd_same
    generalize upd H q (.lst ((Txt.split t " ").map V.str)) = H1 at sq eq0 ⊢
    refine ⟨sa, q, Txt.split t " ", ks, d, rfl, s0.kp (.of sq), pg.wl eq0, split_ne t, fun H2 s2 => ?_⟩
    have s02 := sq.trans s2
    refine ⟨tabs_same tabs s02, fun H3 e3 t3 H4 R s4 hR => ?_⟩
    have e04 : LamX.ExtN H H4 := (ext_same s02).trans (e3.trans (ext_same s4))
    have t4 := tabs_same t3 s4
    have s04 := s0.ext e04
    refine ⟨rfl, _, rfl, _, rfl, ?_⟩
    refine ⟨.str t, .ref sa, rfl, .inr ⟨sa, ks, d, rfl, s04, .inr ⟨t, rfl, pg.tx, ?_⟩⟩⟩
    cases hr : readW (placesOf ks d) (Txt.split t " ") with
    | inl e =>
      refine fun H5 dd s5 ex => ⟨dd, rfl, .inr ⟨rfl, _, _, ex, fun H6 t6 s6 ht => ?_⟩⟩
      have e06 := e04.trans (ext_same (s5.trans s6))
      have t6' := tabs_same t4 (s5.trans s6)
      refine ⟨_, _, rfl, ?_⟩
      refine nxwU ?_
      with_reducible refine retU ?_
      refine ⟨_, rfl, _, rfl, rfl, _, rfl, ?_⟩
      refine ite2 (fun z => absurd (of_decide_eq_true z) (fun q => nomatch q)) (fun _ => ?_)
      refine ⟨_, rfl, (by decide : (3 : Nat) ≤ sizeLine), fun t7 n7 => .inr ⟨heardD e, heardD e, .tup (SqT.of (same_new n7 _ _ ht)) (.cons (.str _) (.cons (.int _) (.cons (.int _) .nil))), .tup (SqT.of upd_same) (.cons (.str _) (.cons (.int _) (.cons (.int _) .nil))), shaped_heard _, shaped_heard _, ?_⟩⟩
      rw [same_data (shaped_heard e)]
      exact k _ (e06.trans (ext_same (same_new n7))) (tabs_same t6' (same_new n7))
    | inr rs =>
      intro H5 x dx tq pt pdx ptt bs s5 qc
      obtain ⟨o, et, lim⟩ := read_only s0.ok hr pg.tx.short
      have eb := bare_inord s0.ok o
      rw [eb] at qc
      refine ⟨x, dx, _, rfl, qc.obj, x, sa, tq, ks, d, rs, rfl, qc.hx, s04.kp (.of s5), o.mem, o.few s0.ok, lim, fun H6 s6 => ⟨_, rfl, hR _ _ fun r nr => ?_⟩⟩
      rw [et]
      have s7 := same_new (o := .lst [.str t]) nr
      have hr7 : (upd H6 r (.lst [.str t])) r = some (.lst [.str t]) := upd_same
      generalize upd H6 r (.lst [.str t]) = H7 at s7 hr7 ⊢
      have e07 := e04.trans (ext_same ((s5.trans s6).trans s7))
      have t7' := tabs_same t4 ((s5.trans s6).trans s7)
      refine ⟨_, _, rfl, ?_⟩
      have hw : wrongV (readW (placesOf ks d) (Txt.split t " ")) = .non := by rw [hr]; rfl
      rw [hw]
      refine nxwU ?_
      with_reducible refine retU ?_
      refine ⟨_, rfl, _, rfl, rfl, _, rfl, ?_⟩
      refine ite2 (fun _ => ?_) (fun z => absurd rfl z)
      have sh := shaped_str (xs := [t]) (by rw [List.all_cons, pg.ok]; rfl)
      refine ⟨_, rfl, (by decide : (1 : Nat) ≤ sizeLine), fun t8 n8 _ => .inr ⟨.list [.str t], .list [.str t], .lst (SqL.of (same_new n8 _ _ hr7)) (.cons (.str _) .nil), .lst (SqL.of upd_same) (.cons (.str _) .nil), sh, sh, ?_⟩⟩
      have ed : PyData.eqv (.list [.str t]) (.list [.str t]) = true := same_data sh
      rw [ed]
      exact k _ (e07.trans (ext_same (same_new n8))) (tabs_same t7' (same_new n8))
end
end L2.K19
set_option Elab.async false
set_option linter.all false
set_option maxRecDepth 100000
set_option maxHeartbeats 4000000
/-! The law. -/
namespace L2.K19
open PySem PySem.Spec PyProof.Rows L2.RV
/-- a value of the kinds that the law puts in a place; not the pen's own list -/
def AnyV (K : PySem.W.Frag) (H : Hp) (p : Addr) (v : V) : Prop := v = .non ∨ (∃ i, v = .int i) ∨ (∃ b, v = .bl b) ∨ (∃ z, v = .str z) ∨ ∃ A, v = .ref A ∧ A ≠ p ∧ ((∃ xs, H A = some (.lst xs)) ∨ (∃ xs, H A = some (.tup xs)) ∨ (∃ kvs, H A = some (.dT kvs)) ∨ ∃ dx fs, H A = some (.ins (He.ga K "Question") dx fs))
theorem AnyV.keepN {K : PySem.W.Frag} {H H' : Hp} {p : Addr} {v : V} (o : AnyV K H p v) (k : KeepN p H H') : AnyV K H' p v := by
  rcases o with h | h | h | h | ⟨A, e, n, h⟩
  · exact .inl h
  · exact .inr (.inl h)
  · exact .inr (.inr (.inl h))
  · exact .inr (.inr (.inr (.inl h)))
  · refine .inr (.inr (.inr (.inr ⟨A, e, n, ?_⟩)))
    rcases h with ⟨xs, h⟩ | ⟨xs, h⟩ | ⟨xs, h⟩ | ⟨dx, fs, h⟩
    · exact .inl ⟨xs, k _ _ n h fun _ z => nomatch z⟩
    · exact .inr (.inl ⟨xs, k _ _ n h fun _ z => nomatch z⟩)
    · exact .inr (.inr (.inl ⟨xs, k _ _ n h fun _ z => nomatch z⟩))
    · exact .inr (.inr (.inr ⟨dx, fs, k _ _ n h fun _ z => nomatch z⟩))
theorem AnyV.same {K : PySem.W.Frag} {H H' : Hp} {p : Addr} {v : V} (o : AnyV K H p v) (s : Same H H') : AnyV K H' p v := o.keepN (.same s)
theorem AnyV.notStr {w : World} {K : PySem.W.Frag} {mg : Str → Option Value} {H : Hp} {p : Addr} {v : V} (T : Top w K mg) (o : AnyV K H p v) (n : ∀ z, v ≠ .str z) : NotA K H v (.type "str") := by
  rcases o with rfl | ⟨i, rfl⟩ | ⟨b, rfl⟩ | ⟨z, rfl⟩ | ⟨A, rfl, np, h⟩
  · exact ⟨_, .base .non, kit_ty (by decide +kernel : kitB "NoneType" "str" = some false)⟩
  · exact ⟨_, .base (.int i), kit_ty (by decide +kernel : kitB "int" "str" = some false)⟩
  · exact ⟨_, .base (.bl b), kit_ty (by decide +kernel : kitB "bool" "str" = some false)⟩
  · exact absurd rfl (n z)
  · rcases h with ⟨xs, h⟩ | ⟨xs, h⟩ | ⟨xs, h⟩ | ⟨dx, fs, h⟩
    · exact ⟨_, .base (.lst h), kit_ty (by decide +kernel : kitB "list" "str" = some false)⟩
    · exact ⟨_, .base (.tup h), kit_ty (by decide +kernel : kitB "tuple" "str" = some false)⟩
    · exact ⟨_, .base (.dT h), kit_ty (by decide +kernel : kitB "dict" "str" = some false)⟩
    · exact ⟨_, ins_ty T.o_Question T.k_Question h, (T.o_Question.kitT "str" (by decide)).2.1⟩
theorem AnyV.notShape {w : World} {K : PySem.W.Frag} {mg : Str → Option Value} {H : Hp} {p : Addr} {v : V} (T : Top w K mg) (o : AnyV K H p v) : NotA K H v (.ref (He.ga K "Shape")) := by
  rcases o with rfl | ⟨i, rfl⟩ | ⟨b, rfl⟩ | ⟨z, rfl⟩ | ⟨A, rfl, np, h⟩
  · exact ⟨_, .base .non, (T.o_Shape.kitT "NoneType" (by decide)).1⟩
  · exact ⟨_, .base (.int i), (T.o_Shape.kitT "int" (by decide)).1⟩
  · exact ⟨_, .base (.bl b), (T.o_Shape.kitT "bool" (by decide)).1⟩
  · exact ⟨_, .base (.str z), (T.o_Shape.kitT "str" (by decide)).1⟩
  · rcases h with ⟨xs, h⟩ | ⟨xs, h⟩ | ⟨xs, h⟩ | ⟨dx, fs, h⟩
    · exact ⟨_, .base (.lst h), (T.o_Shape.kitT "list" (by decide)).1⟩
    · exact ⟨_, .base (.tup h), (T.o_Shape.kitT "tuple" (by decide)).1⟩
    · exact ⟨_, .base (.dT h), (T.o_Shape.kitT "dict" (by decide)).1⟩
    · exact ⟨_, ins_ty T.o_Question T.k_Question h, (T.o_Shape.kit "Question" (by decide)).1⟩
theorem gnU {i : Nat} {v : V} {σ : L2.St} {H : Hp} {Q : L2.St → Hp → Prop} (h : Q (σ.set i (some v)) H) : gName i v σ H Q := h
theorem KeepN.pen {H H' : Hp} {p l : Addr} {ns : List Int} {a r : Int} (x : PenAt H p l ns a r) (e : LamX.ExtN H H') : PenAt H' p l ns a r := ⟨e _ _ x.pen (fun _ z => nomatch z), e _ _ x.nums (fun _ z => nomatch z), x.ne, x.few, x.from0, x.rest0⟩
theorem page_of {ks : List Str} {d : Nat} (ok : ShOk ks d) {ws : List (Pl × Int)} (wt : Wts ks d ws) : Pg 35 144 6000 (qText (bare ks d ws)) ∧ (∀ z ∈ bare ks d ws, z.2.natAbs < 10 ^ 34) := by
  have o := inord_bare (ks := ks) (d := d) ws
  have lim : ∀ z ∈ bare ks d ws, z.2.natAbs < 10 ^ 34 := fun z hz => by
    rw [(bare_mem z hz).2]
    exact Nat.lt_trans (wt.bits.at_ _) (by decide)
  refine ⟨?_, lim⟩
  rw [text_words (o.nd ok)]
  have wf : WB 35 (wordsQ (bare ks d ws)) := fun w hw => by
    obtain ⟨a, b, c⟩ := word_facts ok o.mem (k := 34) (by decide) lim hw
    exact ⟨c, a, b⟩
  have wl := wordsQ_len (bare ks d ws)
  have few := o.few ok
  have key : ∀ l : List Str, WB 35 l → sumL2 l ≤ 35 * l.length := by
    intro l
    induction l with
    | nil => intro _; exact Nat.le_refl _
    | cons x r ih =>
      intro h
      have a := (h x List.mem_cons_self).1
      have b := ih fun w hw => h w (List.mem_cons_of_mem _ hw)
      show x.length + sumL2 r ≤ 35 * (r.length + 1)
      omega
  have ks := key _ wf
  exact wf.page (by omega) (by omega)
def someL : List Str := (["", "-", "- ", "1", "1 a", "1 a 0", "1 a 0 ", "1 a 0 ,", "1 a 0 , 1 a 1", "1 a 1 , 1 a 0", "0 a 0", "1 a 2"] : List Str) ++ (["1 a 0 , 1 a 0", "1 b 0 , 1 a 1", "1 c 0", "-1 b 1 , ", "1 a 0 1 b 0"] : List Str)
theorem some_ok : ∀ t ∈ someL, PgOk t := by
  have z : (someL.all fun t => decide (t.length ≤ 60000) && (decide ((Txt.split t " ").length ≤ 1000) && ((Txt.split t " ").all (fun y => decide (y.length ≤ 600)) && PyData.strOk t))) = true := by decide +kernel
  intro t ht
  have y := List.all_eq_true.mp z t ht
  obtain ⟨a, y⟩ := Bool.and_eq_true_iff.mp y
  obtain ⟨b, y⟩ := Bool.and_eq_true_iff.mp y
  obtain ⟨c, y⟩ := Bool.and_eq_true_iff.mp y
  exact ⟨⟨of_decide_eq_true a, of_decide_eq_true b, fun w hw => of_decide_eq_true (List.all_eq_true.mp c w hw)⟩, y⟩
/-- law(script) -/
def spLaw (K : PySem.W.Frag) (TS : List (Addr × Str)) : Sp := fun vs H Q _ => ∃ (a : Addr) (ns : List Int), vs = [.ref a] ∧ SqL K H a (ns.map V.int) ∧ ns.length ≤ 63 ∧ LamX.Tabs TS H ∧ ∀ H', Q (.bl true) H'
section
variable {P : Program} {w : World} {K : PySem.W.Frag} {mg : Str → Option Value} {base : Heap} {fd : FuncData}
theorem ok_law {TS : List (Addr × Str)} {PT : Addr} (T : Top w K mg) (TK : TopK K) (fP : PySem.W.findIn K (.ref (ca K 6)) "part" = some none) (fL : PySem.W.findIn K (.ref (ca K 10)) "line" = some none) (fW : PySem.W.findIn K (.ref (ca K 10)) "word" = some none) (D_law_pen : Def P w K mg base "_law_pen" 1 ["_law_script"] (spPen K)) (D_law_shape : Def P w K mg base "_law_shape" 5 ["_law_pen_here"] (spLShape K)) (D_law_weights : Def P w K mg base "_law_weights" 3 ["_law_pen_here", "_law_shape_here"] (spLWeights K)) (D_law_text : Def P w K mg base "_law_text" 1 ["_law_shape_here", "_law_weights_here"] (spLText K)) (D_law_bent : Def P w K mg base "_law_bent" 3 ["_law_pen_here", "_law_page"] spLBent) (D_law_pick : Def P w K mg base "_law_pick" 2 ["_law_pen_here", "_law_some_here"] spPick)
    (D_law_right : DefG P w K mg base "_law_right" 13 ["_law_shape_here", "_law_page"] (spLRight K TS)) (C_Shape : MakeX (L2.CX P w) P w K mg base "Shape" (He.ga K "Shape") 3 ["self", "keys", "days"] [] (spShapeInit K)) (C_Question : MakeX (L2.CX P w) P w K mg base "Question" (He.ga K "Question") 8 ["self", "shape", "weights"] [] (spQuestion K)) (S_Question_str : MethS CX0 P w K mg base (He.ga K "Question") "__str__" 6 ["self"] (spQStr K)) (S_Question_eq : MethS CX0 P w K mg base (He.ga K "Question") "__eq__" 4 ["self", "other"] (spQEq K)) (CM_Question_read : CMethX (L2.CX P w) P w K mg base (He.ga K "Question") "read" 10 ["cls", "text", "shape"] ["shape", "text"] (spRead K))
    (L_law_heard : LamD K mg "_law_heard" "_law_ask" s_law_heard) (TB : LamX.TabB base mg (He.codeOf K ("law", none)) PT) (hm : (PT, qLaw) ∈ TS) (hq : ∀ p ∈ TS, p.1 = PT → p.2 = qLaw) (F : Fn K "law" s_law fd) : FnG P w K mg base CX0 15 (He.ga K "law") fd ["_law_script"] (spLaw K TS) := by
  refine okGC (p := ("law", none)) F sc_law (fun vs H Q E h => ?_) (fun A outer s H vs Q E hgu hr h => ?_)
  · obtain ⟨a, ns, rfl, _⟩ := h
    rfl
  · obtain ⟨a0, ns0, rfl, hS, few, tabs, kk⟩ := h
    have hu := hr.units
    refine ⟨_, PSs.nox (pss_cons (ps_set (i := 1) sc_law.nd rfl (by first | exact Or.inl rfl | exact Or.inr rfl) (pe_callD D_law_pen (hr.mono (by decide)) rfl (pa_cons (pv 0) pa_nil)))
      (pss_cons (ps_for PassesOwn.never rfl (pi_range1 rfl T.n_range (pa_cons pe_int pa_nil)) (pg_name (i := 2) sc_law.nd rfl (by first | exact Or.inl rfl | exact Or.inr rfl)) (pss_cons (ps_set (i := 5) sc_law.nd rfl (by first | exact Or.inl rfl | exact Or.inr rfl) (pe_callD D_law_shape (hr.mono (by decide)) rfl (pa_cons (pv 1) pa_nil)))
      (pss_cons (ps_set (i := 6) sc_law.nd rfl (by first | exact Or.inl rfl | exact Or.inr rfl) (pe_callD D_law_weights (hr.mono (by decide)) rfl (pa_cons (pv 1) (pa_cons (pv 5) pa_nil))))
      (pss_cons (ps_par (i := 10) (j := 11) (by rfl) sc_law.nd rfl rfl (by decide) rfl rfl (pa_cons (pe_mkX C_Question (hr.mono (by decide)) rfl pass_E0 (pa_cons (pv 5) (pa_cons (pv 6) pa_nil))) (pa_cons (pe_callD D_law_text (hr.mono (by decide)) rfl (pa_cons (pv 5) (pa_cons (pv 6) pa_nil))) pa_nil)) (by rfl))
      (pss_cons (ps_if (PW.pt (pw_or (pt_cmpR (op_diffK (K := K) rfl hu) (pe_callTy (call_strO S_Question_str (hr.mono (by decide)) pass_CX0) rfl T.n_str (by decide +kernel) (pa_cons (pv 10) pa_nil)) (pv 11) (nomark _)) (pw_or (pt_cmpR (op_neO S_Question_eq T.o_Question.obj T.o_Question.ne (hr.mono (by decide)) pass_CX0) (pe_cmX CM_Question_read (hr.mono (by decide)) pass_E0 (pe_glob (v := .ref (He.ga K "Question")) rfl T.g_Question rfl) (pa_cons (pv 11) (pa_cons (pv 5) pa_nil))) (pv 10) (nomark _)) (pw_or1 (pt_cmpR (op_neO S_Question_eq T.o_Question.obj T.o_Question.ne (hr.mono (by decide)) pass_CX0) (pe_cmXK CM_Question_read (hr.mono (by decide)) pass_E0 (pe_glob (v := .ref (He.ga K "Question")) rfl T.g_Question rfl) (pk_cons (pv 5) (pk_cons (pv 11) pk_nil))) (pv 10) (nomark _)))))) (pss_one (ps_ret pe_bl)) pss_nil)
      (pss_cons (ps_for PassesOwn.never rfl (pi_range1 rfl T.n_range (pa_cons pe_int pa_nil)) (pg_name (i := 7) sc_law.nd rfl (by first | exact Or.inl rfl | exact Or.inr rfl)) (pss_cons (ps_set (i := 11) sc_law.nd rfl (by first | exact Or.inl rfl | exact Or.inr rfl) (pe_callD D_law_bent (hr.mono (by decide)) rfl (pa_cons (pv 1) (pa_cons (pv 11) pa_nil))))
      (pss_one (ps_if (pt_not (pt_val (pe_callDG D_law_right hgu (hr.mono (by decide)) rfl (pa_cons (pv 5) (pa_cons (pv 11) pa_nil))))) (pss_one (ps_ret pe_bl)) pss_nil))))
      (pss_cons (ps_set (i := 8) sc_law.nd rfl (by first | exact Or.inl rfl | exact Or.inr rfl) (pe_callD D_law_pick (hr.mono (by decide)) rfl (pa_cons (pv 1) (pa_cons (pe_lstN (pa_cons pe_non (pa_cons pe_int (pa_cons pe_bl (pa_cons (pe_lstN (pa_cons pe_str pa_nil)) (pa_cons (pe_tup (pa_cons pe_str (pa_cons pe_str (pa_cons pe_str pa_nil)))) (pa_cons pe_dnewT (pa_cons (pv 10) pa_nil)))))))) pa_nil))))
      (pss_cons (ps_set (i := 9) sc_law.nd rfl (by first | exact Or.inl rfl | exact Or.inr rfl) (pe_callD D_law_pick (hr.mono (by decide)) rfl (pa_cons (pv 1) (pa_cons (pe_lstN (pa_cons pe_non (pa_cons pe_int (pa_cons pe_str (pa_cons (pe_lstN pa_nil) (pa_cons (pv 10) pa_nil)))))) pa_nil))))
      (pss_cons (ps_if (pt_cmpR (op_diffK (K := K) rfl hu) (pe_lamX (k := 10) L_law_heard rfl sc_law_heard rfl (Or.inl rfl) (fun g cdg => heard_gives T TK fP fL fW hgu (hr.mono (by decide))) TB rfl hm hq (hr.mono (by decide)) (LamX.lamS_by (sc := defScope s_law) (by decide +kernel)) rfl (fun _ _ _ _ _ => rfl) (fun A2 o2 s2 H2 E2 f2 c2 hr2 => (pe_cmX CM_Question_read (hr2.mono (by decide)) (passes_call (takes_of rfl rfl rfl rfl) (fun _ _ _ _ h => h)) (pe_glob (v := .ref (He.ga K "Question")) rfl T.g_Question rfl) (pa_cons (pv 8) (pa_cons (pv 5) pa_nil))))) (pe_tup (pa_cons pe_str (pa_cons pe_int (pa_cons pe_int pa_nil)))) (nomark _)) (pss_one (ps_ret pe_bl)) pss_nil)
      (pss_one (ps_if (pt_cmpR (op_diffK (K := K) rfl hu) (pe_lamX (k := 10) L_law_heard rfl sc_law_heard rfl (Or.inl rfl) (fun g cdg => heard_gives T TK fP fL fW hgu (hr.mono (by decide))) TB rfl hm hq (hr.mono (by decide)) (LamX.lamS_by (sc := defScope s_law) (by decide +kernel)) rfl (fun _ _ _ _ _ => rfl) (fun A2 o2 s2 H2 E2 f2 c2 hr2 => (pe_cmX CM_Question_read (hr2.mono (by decide)) (passes_call (takes_of rfl rfl rfl rfl) (fun _ _ _ _ h => h)) (pe_glob (v := .ref (He.ga K "Question")) rfl T.g_Question rfl) (pa_cons (pv 8) (pa_cons (pv 9) pa_nil))))) (pe_tup (pa_cons pe_str (pa_cons pe_str pa_nil))) (nomark _)) (pss_one (ps_ret pe_bl)) pss_nil)))))))))))
      (pss_cons (ps_set (i := 3) sc_law.nd rfl (by first | exact Or.inl rfl | exact Or.inr rfl) (pe_mkX C_Shape (hr.mono (by decide)) rfl pass_E0 (pa_cons (pe_lstN (pa_cons pe_str (pa_cons pe_str pa_nil))) (pa_cons pe_int pa_nil))))
      (pss_cons (ps_set (i := 4) sc_law.nd rfl (by first | exact Or.inl rfl | exact Or.inr rfl) (pe_lstN (pa_cons pe_str (pa_cons pe_str (pa_cons pe_str (pa_cons pe_str (pa_cons pe_str (pa_cons pe_str (pa_cons pe_str (pa_cons pe_str (pa_cons pe_str (pa_cons pe_str (pa_cons pe_str (pa_cons pe_str pa_nil))))))))))))))
      (pss_cons (ps_set (i := 4) sc_law.nd rfl (by first | exact Or.inl rfl | exact Or.inr rfl) (pe_op op_cat (pv 4) (pe_lstN (pa_cons pe_str (pa_cons pe_str (pa_cons pe_str (pa_cons pe_str (pa_cons pe_str pa_nil))))))))
      (pss_one (ps_ret (pe_cmpR (op_sameK (K := K) rfl hu) (pe_lc (own := [("_law_page", 11)]) (g := gName 11) (by rfl) sc_law.nd (pi_sqK (K := K) rfl (pv 4)) (blkOk_by (own := [("_law_page", 11)]) (N := ["_law_script", "_law_pen_here", "_law_turn", "_law_two", "_law_some_here", "_law_shape_here", "_law_weights_here", "_law_again", "_law_odd", "_law_bad", "_law_made", "_law_page"]) (sc := defScope s_law) (by decide +kernel)) (fun _ _ _ _ _ => by exact (pg_name (i := 11) sc_law.nd rfl (by first | exact Or.inl rfl | exact Or.inr rfl))) (fun _ _ _ _ _ => by exact (pts_one (pt_not (pt_val (pe_callDG D_law_right hgu (hr.mono (by decide)) rfl (pa_cons (pv 3) (pa_cons (pv 11) pa_nil))))))) (fun _ _ _ _ _ => by exact (pv 11))) (pe_lstN pa_nil) (nomark _))))))))), ?_⟩
    with_reducible refine setsU ?_
    refine ⟨_, rfl, a0, ns0, rfl, hS, few, fun H0 p l ns s0 np pen0 => ?_⟩
    have tabs0 := tabs_same tabs s0
    clear tabs hS
    refine ⟨9, rfl, by decide, by decide, ?_⟩
    refine for_range (lo := 0) (n := 9) (fun n σ' H' => ∃ (a r : Int) (c0 c2 c3 c4 c5 c6 c7 c8 c9 c10 c11 : Option V), σ' = [c0, some (.ref p), c2, c3, c4, c5, c6, c7, c8, c9, c10, c11] ∧ PenAt H' p l ns a r ∧ a ≤ 1000 * n ∧ LamX.Tabs TS H')
      ⟨0, 0, _, _, _, _, _, _, _, _, _, _, _, rfl, pen0, by omega, tabs0⟩ (fun n σ' H1 hn q => ?_) (fun σ' H1 q => ?_)
    · obtain ⟨a1, r1, c0, c2, c3, c4, c5, c6, c7, c8, c9, c10, c11, rfl, pen1, la1, tabs1⟩ := q
      clear kk s0 np pen0 tabs0
      with_reducible refine gnU ?_
      with_reducible refine setsU ?_
      refine ⟨_, rfl, p, l, ns, a1, r1, rfl, pen1, by omega, fun H2 a2 r2 sa ks d k2 pen2 la2 sh2 l3 d3 akn => ?_⟩
      have tabs2 := tabs_keep tabs1 pen1.pen k2
      have ok := sh2.ok
      with_reducible refine seqU ?_
      refine ⟨_, rfl, _, rfl, p, l, ns, a2, r2, sa, ks, d, rfl, pen2, by omega, sh2, fun H3 a3 r3 t1 ws k3 pen3 la3 h1 e1 w1 => ?_⟩
      have sh3 := sh2.kp (.pen k3 pen2.pen)
      have tabs3 := tabs_keep tabs2 pen2.pen k3
      obtain ⟨pg, lim⟩ := page_of ok w1
      have io := inord_bare (ks := ks) (d := d) ws
      have blim : Lim (bare ks d ws) := fun z hz => by
        rw [at_mem (io.nd ok) z hz]
        exact Nat.lt_of_lt_of_le (lim z hz) (Nat.pow_le_pow_right (by decide) (by decide))
      have pgo := pg.page (by decide) (by decide) (by decide)
      have rt := read_text ok io (k := 34) (by decide) lim
      have bb := bare_inord ok io
      have ds : dtSame (plD (bare ks d ws)) (plD (bare ks d ws)) = true := dtSame_self (io.nd ok)
      -- the question, its text
      show tSeq _ _ _ [c0, some (.ref p), some (.int (0 + n)), c3, c4, some (.ref sa), some (.ref t1), c7, c8, c9, c10, c11] H3
      refine nxwU ?_
      with_reducible refine seqU ?_
      refine ⟨_, rfl, _, rfl, fun x dx nx ndx nd => ?_⟩
      have sm := made_mid (o := .ins (He.ga K "Question") dx []) nx ndx
      refine ⟨x, dx, sa, t1, ks, d, ws, rfl, upd_same, (upd_ne nd).trans upd_same, sh3.kp (.of sm), sm _ _ e1, w1.mem, fun H4 tq pt pdx ptt bs k4 htq qc4 => ⟨rfl, ?_⟩⟩
      have s34 := made_same nx ndx k4
      refine ⟨_, rfl, _, rfl, sa, t1, ks, d, ws, rfl, sh3.kp (.of s34), s34 _ _ e1, w1, fun H5 s45 => ⟨_, _, rfl, ?_⟩⟩
      have s35 := s34.trans s45
      have sh5 := sh3.kp (.of s35)
      have qc5 := qc4.kx (E := fun _ => False) (.of s45) id
      generalize hB : bare ks d ws = B at *
      show tSeq _ _ _ [c0, some (.ref p), some (.int (0 + n)), c3, c4, some (.ref sa), some (.ref t1), c7, c8, c9, some (.ref x), some (.str (qText B))] H5
      refine nxwU ?_
      with_reducible refine seqU ?_
      with_reducible refine ifU ?_
      with_reducible refine torU ?_
      refine ⟨_, rfl, x, dx, _, rfl, qc5.obj, x, sa, tq, ks, d, B, rfl, qc5.hx, sh5, io.mem, io.few ok, blim, fun H6 s56 => ⟨_, rfl, _, rfl, .inl ⟨rfl, _, rfl, ?_⟩⟩⟩
      rw [decide_eq_true rfl]
      refine ite2 (fun z => nomatch z) (fun _ => ?_)
      have sh6 := sh5.kp (.of s56)
      have qc6 := qc5.kx (E := fun _ => False) (.of s56) id
      have same : ∀ {H7 : Hp} {y dy ty py qdy qty : Addr} {bsy : List Addr} {Z : V → Hp → Prop}, Same H6 H7 → QueC K H7 y dy ty py sa qdy qty bsy B (nzs ks d B) → Z (.bl false) H7 → rNeO K (He.ga K "Question") (spQEq K) E0 (.ref y) (.ref x) H7 Z := by
        intro H7 y dy ty py qdy qty bsy Z s67 qy z
        have qx := qc6.kx (E := fun _ => False) (.of s67) id
        have sh7 := sh6.kp (.of s67)
        have tyx := ins_ty T.o_Question T.k_Question qx.obj
        refine ⟨y, dy, _, _, rfl, qy.obj, tyx, (T.o_Question.kit "Question" (by decide)).2, y, _, sa, ks, d, B, rfl, qy.held, sh7, .inl ⟨x, sa, ks, d, B, rfl, qx.held, sh7, ⟨ty, tq, qy.hx, qx.hx⟩, _, rfl, ?_⟩⟩
        rw [shapeEq_self d sh7.good, ds]
        exact z
      with_reducible refine torU ?_
      refine ⟨rfl, _, rfl, _, rfl, .str (qText B), .ref sa, rfl, .inr ⟨sa, ks, d, rfl, sh6, .inr ⟨_, rfl, pgo.tx, ?_⟩⟩⟩
      rw [rt]
      dsimp only
      rw [bb]
      refine fun H7 y dy ty py qdy qty bsy s67 qy => ⟨_, rfl, same s67 qy ⟨_, rfl, ?_⟩⟩
      refine ite2 (fun z => nomatch z) (fun _ => ?_)
      have sh7 := sh6.kp (.of s67)
      refine ⟨rfl, _, rfl, _, rfl, rfl, .str (qText B), .ref sa, rfl, .inr ⟨sa, ks, d, rfl, sh7, .inr ⟨_, rfl, pgo.tx, ?_⟩⟩⟩
      rw [rt]
      dsimp only
      rw [bb]
      refine fun H8 y2 dy2 ty2 py2 qdy2 qty2 bsy2 s78 qy2 => ⟨_, rfl, same (s67.trans s78) qy2 ⟨_, rfl, ?_⟩⟩
      refine ite2 (fun z => nomatch z) (fun _ => ?_)
      have s38 := ((s35.trans s56).trans s67).trans s78
      have sh8 := sh7.kp (.of s78)
      have qc8 := qc6.kx (E := fun _ => False) (.of (s67.trans s78)) id
      have pen8 := pen3.same s38
      have tabs8 := tabs_same tabs3 s38
      -- bends
      refine nxwU ?_
      with_reducible refine seqU ?_
      refine ⟨4, rfl, by decide, by decide, ?_⟩
      refine for_range (lo := 0) (n := 4) (fun j σ' H' => ∃ (a r : Int) (cj : Option V) (m c L : Nat) (t : Str), σ' = [c0, some (.ref p), some (.int (0 + n)), c3, c4, some (.ref sa), some (.ref t1), cj, c8, c9, some (.ref x), some (.str t)] ∧ PenAt H' p l ns a r ∧ a ≤ a3 + 5 * j ∧ LamX.Tabs TS H' ∧ ShapeAt K H' sa ks d ∧ QueC K H' x dx tq pt sa pdx ptt bs B (nzs ks d ws) ∧ Pg m c L t ∧ m + 1 ≤ 36 * 2 ^ j ∧ c ≤ 144 + j ∧ L ≤ 6000 + 1000 * j ∧ 30 ≤ m)
        ⟨a3, r3, c7, 35, 144, 6000, qText B, rfl, pen8, by omega, tabs8, sh8, qc8, pg, by decide, by omega, by omega, by decide⟩ (fun j σ' H9 hj q => ?_) (fun σ' H9 q => ?_)
      · obtain ⟨a9, r9, cj, m, c, L, t, rfl, pen9, la9, tabs9, sh9, qc9, pg9, bm, bc, bL, m30⟩ := q
        have p2 : 36 * 2 ^ j ≤ 288 := by
          have : j = 0 ∨ j = 1 ∨ j = 2 ∨ j = 3 := by omega
          rcases this with rfl | rfl | rfl | rfl <;> decide
        with_reducible refine gnU ?_
        with_reducible refine setsU ?_
        refine ⟨_, rfl, _, rfl, p, l, ns, a9, r9, t, m, c, L, rfl, pen9, by omega, pg9, m30, by omega, by omega, by omega, fun H10 a10 r10 u k10 pen10 la10 pg10 => ?_⟩
        have tabs10 := tabs_keep tabs9 pen9.pen k10
        have sh10 := sh9.kp (.pen k10 pen9.pen)
        have qc10 := qc9.kx (E := fun _ => False) (.pen k10 pen9.pen) id
        refine ⟨_, rfl, _, rfl, sa, u, ks, d, rfl, sh10, pg10.page (by omega) (by omega) (by omega), tabs10, fun H11 e11 t11 => ⟨_, rfl, ?_⟩⟩
        refine ite2 (fun z => nomatch z) (fun _ => ?_)
        refine ⟨a10, r10, _, 2 * m + 1, c + 1, L + c + m + 70, u, rfl, KeepN.pen pen10 e11, by omega, t11, sh10.ext e11, qc10.kx (E := fun _ => False) (Kx.ext e11) id, pg10, by rw [Nat.pow_succ]; omega, by omega, by omega, by omega⟩
      obtain ⟨a9, r9, cj, m, c, L, t, rfl, pen9, la9, tabs9, sh9, qc9, _⟩ := q
      refine nxwU ?_
      with_reducible refine setsU ?_
      have xnp : x ≠ p := fun z => by
        have := qc9.obj
        rw [z, pen9.pen] at this
        cases this
      refine ⟨_, rfl, (by decide : (1 : Nat) ≤ sizeLine), fun A nA _ => ⟨(by decide : (3 : Nat) ≤ sizeLine), fun B2 nB D nD => ⟨_, rfl, (by decide : (7 : Nat) ≤ sizeLine), fun Lq nL _ => ?_⟩⟩⟩
      have sA := same_new (o := .lst [V.str "-"]) nA
      have sB := same_new (o := .tup [V.str "1", V.str "a", V.str "0"]) nB
      have sD := same_new (o := .dT []) nD
      have sL := same_new (o := .lst [V.non, .int 0, .bl true, .ref A, .ref B2, .ref D, .ref x]) nL
      have hA := sL _ _ (sD _ _ (sB _ _ (show (upd H9 A (.lst [V.str "-"])) A = _ from upd_same)))
      have hB2 := sL _ _ (sD _ _ (show (upd _ B2 (.tup [V.str "1", V.str "a", V.str "0"])) B2 = _ from upd_same))
      have hD := sL _ _ (show (upd _ D (.dT [])) D = _ from upd_same)
      have hLq : (upd (upd (upd (upd H9 A (.lst [V.str "-"])) B2 (.tup [V.str "1", V.str "a", V.str "0"])) D (.dT [])) Lq (.lst [V.non, .int 0, .bl true, .ref A, .ref B2, .ref D, .ref x])) Lq = some (.lst [V.non, .int 0, .bl true, .ref A, .ref B2, .ref D, .ref x]) := upd_same
      have s9L := ((sA.trans sB).trans sD).trans sL
      have nAp : A ≠ p := fun z => by rw [z, pen9.pen] at nA; cases nA
      have nBp : B2 ≠ p := fun z => by rw [z, sA _ _ pen9.pen] at nB; cases nB
      have nDp : D ≠ p := fun z => by rw [z, sB _ _ (sA _ _ pen9.pen)] at nD; cases nD
      have nLp : Lq ≠ p := fun z => by rw [z, sD _ _ (sB _ _ (sA _ _ pen9.pen))] at nL; cases nL
      generalize upd (upd (upd (upd H9 A (.lst [V.str "-"])) B2 (.tup [V.str "1", V.str "a", V.str "0"])) D (.dT [])) Lq (.lst [V.non, .int 0, .bl true, .ref A, .ref B2, .ref D, .ref x]) = HL at hA hB2 hD hLq s9L ⊢
      refine ⟨p, l, Lq, ns, a9, r9, _, rfl, pen9.same s9L, by omega, hLq, nLp, (by decide : 0 < 7), (by decide : 7 < 1000000), fun H10 a10 r10 v k10 pen10 la10 hv => ?_⟩
      have qc9L := qc9.kx (E := fun _ => False) (.of s9L) id
      have odd : AnyV K H10 p v ∧ ∀ z, v ≠ .str z := by
        have o9 : AnyV K HL p v ∧ ∀ z, v ≠ .str z := by
          simp only [List.mem_cons, List.not_mem_nil, or_false] at hv
          rcases hv with rfl | rfl | rfl | rfl | rfl | rfl | rfl
          · exact ⟨.inl rfl, fun _ z => nomatch z⟩
          · exact ⟨.inr (.inl ⟨_, rfl⟩), fun _ z => nomatch z⟩
          · exact ⟨.inr (.inr (.inl ⟨_, rfl⟩)), fun _ z => nomatch z⟩
          · exact ⟨.inr (.inr (.inr (.inr ⟨A, rfl, nAp, .inl ⟨_, hA⟩⟩))), fun _ z => nomatch z⟩
          · exact ⟨.inr (.inr (.inr (.inr ⟨B2, rfl, nBp, .inr (.inl ⟨_, hB2⟩)⟩))), fun _ z => nomatch z⟩
          · exact ⟨.inr (.inr (.inr (.inr ⟨D, rfl, nDp, .inr (.inr (.inl ⟨_, hD⟩))⟩))), fun _ z => nomatch z⟩
          · exact ⟨.inr (.inr (.inr (.inr ⟨x, rfl, xnp, .inr (.inr (.inr ⟨_, _, qc9L.obj⟩))⟩))), fun _ z => nomatch z⟩
        exact ⟨o9.1.keepN k10.n, o9.2⟩
      have sh10 := (sh9.kp (.of s9L)).kp (.pen k10 (s9L _ _ pen9.pen))
      have qc10 := qc9L.kx (E := fun _ => False) (.pen k10 (s9L _ _ pen9.pen)) id
      have tabs10 := tabs_keep (tabs_same tabs9 s9L) (s9L _ _ pen9.pen) k10
      clear hA hB2 hD hLq
      show tSeq _ _ _ [c0, some (.ref p), some (.int (0 + n)), c3, c4, some (.ref sa), some (.ref t1), cj, some v, c9, some (.ref x), some (.str t)] H10
      with_reducible refine setsU ?_
      refine ⟨_, rfl, (by decide : (0 : Nat) ≤ sizeLine), fun A2 nA2 _ => ⟨_, rfl, (by decide : (5 : Nat) ≤ sizeLine), fun Lr nR _ => ?_⟩⟩
      have sA2 := same_new (o := .lst []) nA2
      have sR := same_new (o := .lst [V.non, .int 0, .str "a days 1", .ref A2, .ref x]) nR
      have hA2 := sR _ _ (show (upd H10 A2 (.lst [])) A2 = _ from upd_same)
      have hLr : (upd (upd H10 A2 (.lst [])) Lr (.lst [V.non, .int 0, .str "a days 1", .ref A2, .ref x])) Lr = some (.lst [V.non, .int 0, .str "a days 1", .ref A2, .ref x]) := upd_same
      have s10R := sA2.trans sR
      have nA2p : A2 ≠ p := fun z => by rw [z, pen10.pen] at nA2; cases nA2
      have nRp : Lr ≠ p := fun z => by rw [z, sA2 _ _ pen10.pen] at nR; cases nR
      generalize upd (upd H10 A2 (.lst [])) Lr (.lst [V.non, .int 0, .str "a days 1", .ref A2, .ref x]) = HR at hA2 hLr s10R ⊢
      refine ⟨p, l, Lr, ns, a10, r10, _, rfl, pen10.same s10R, by omega, hLr, nRp, (by decide : 0 < 5), (by decide : 5 < 1000000), fun H11 a11 r11 v2 k11 pen11 la11 hv2 => ?_⟩
      have qc10R := qc10.kx (E := fun _ => False) (.of s10R) id
      have bad : AnyV K H11 p v2 := by
        have o9 : AnyV K HR p v2 := by
          simp only [List.mem_cons, List.not_mem_nil, or_false] at hv2
          rcases hv2 with rfl | rfl | rfl | rfl | rfl
          · exact .inl rfl
          · exact .inr (.inl ⟨_, rfl⟩)
          · exact .inr (.inr (.inr (.inl ⟨_, rfl⟩)))
          · exact .inr (.inr (.inr (.inr ⟨A2, rfl, nA2p, .inl ⟨_, hA2⟩⟩)))
          · exact .inr (.inr (.inr (.inr ⟨x, rfl, xnp, .inr (.inr (.inr ⟨_, _, qc10R.obj⟩))⟩)))
        exact o9.keepN k11.n
      have odd11 : AnyV K H11 p v := (odd.1.same s10R).keepN k11.n
      have sh11 := (sh10.kp (.of s10R)).kp (.pen k11 (s10R _ _ pen10.pen))
      have tabs11 := tabs_keep (tabs_same tabs10 s10R) (s10R _ _ pen10.pen) k11
      clear hA2 hLr
      show tSeq _ _ _ [c0, some (.ref p), some (.int (0 + n)), c3, c4, some (.ref sa), some (.ref t1), cj, some v, some v2, some (.ref x), some (.str t)] H11
      with_reducible refine seqU ?_
      with_reducible refine ifU ?_
      with_reducible refine testU ?_
      with_reducible refine opU ?_
      refine ⟨tabs11, fun H12 e12 t12 H13 R s13 hR => ?_⟩
      have e13 := e12.trans (ext_same s13)
      have t13 := tabs_same t12 s13
      refine ⟨rfl, _, rfl, _, rfl, v, .ref sa, rfl, .inr ⟨sa, ks, d, rfl, sh11.ext e13, .inl ⟨(odd11.keepN (.ofExt e13)).notStr T odd.2, fun H14 dd s14 ex => ⟨dd, rfl, .inr ⟨rfl, _, _, ex, fun H15 t5 s15 ht => ?_⟩⟩⟩⟩⟩
      have e15 := e13.trans (ext_same (s14.trans s15))
      have t15 := tabs_same t13 (s14.trans s15)
      refine ⟨(by decide : (3 : Nat) ≤ sizeLine), fun t7 n7 => .inr ⟨heardD 0, heardD 0, .tup (SqT.of (same_new n7 _ _ ht)) (.cons (.str _) (.cons (.int _) (.cons (.int _) .nil))), .tup (SqT.of upd_same) (.cons (.str _) (.cons (.int _) (.cons (.int _) .nil))), shaped_heard _, shaped_heard _, _, rfl, ?_⟩⟩
      rw [same_data (shaped_heard 0)]
      refine ite2 (fun z => nomatch z) (fun _ => ?_)
      have e16 := e15.trans (ext_same (same_new (o := .tup [.str "BadText", .int 0, .int 0]) n7))
      have t16 := tabs_same t15 (same_new (o := .tup [.str "BadText", .int 0, .int 0]) n7)
      generalize upd H15 t7 (.tup [.str "BadText", .int 0, .int 0]) = H16 at e16 t16 ⊢
      refine nxwU ?_
      with_reducible refine ifU ?_
      with_reducible refine testU ?_
      with_reducible refine opU ?_
      refine ⟨t16, fun H17 e17 t17 H18 R2 s18 hR2 => ?_⟩
      have e18 := (e16.trans e17).trans (ext_same s18)
      have t18 := tabs_same t17 s18
      refine ⟨rfl, _, rfl, _, rfl, v, v2, rfl, .inl ⟨(bad.keepN (.ofExt e18)).notShape T, fun H19 dd2 s19 ex2 => ⟨dd2, rfl, .inl ⟨rfl, _, ex2, fun H20 t8 s20 ht2 => ?_⟩⟩⟩⟩
      have e20 := e18.trans (ext_same (s19.trans s20))
      have t20 := tabs_same t18 (s19.trans s20)
      have shq : SeqAt.shaped (.tuple [.str "BadQuestion", .str "shape"]) = true := by decide +kernel
      refine ⟨(by decide : (2 : Nat) ≤ sizeLine), fun t9 n9 => .inr ⟨.tuple [.str "BadQuestion", .str "shape"], .tuple [.str "BadQuestion", .str "shape"], .tup (SqT.of (same_new n9 _ _ ht2)) (.cons (.str _) (.cons (.str _) .nil)), .tup (SqT.of upd_same) (.cons (.str _) (.cons (.str _) .nil)), shq, shq, _, rfl, ?_⟩⟩
      rw [same_data shq]
      refine ite2 (fun z => nomatch z) (fun _ => ?_)
      have s21 := same_new (o := .tup [.str "BadQuestion", .str "shape"]) n9
      exact ⟨a11, r11, _, _, _, _, _, _, _, _, _, _, _, rfl, (KeepN.pen pen11 e20).same s21, by push_cast; omega, tabs_same t20 s21⟩
    · obtain ⟨a1, r1, c0, c2, c3, c4, c5, c6, c7, c8, c9, c10, c11, rfl, pen1, la1, tabs1⟩ := q
      refine nxwU ?_
      with_reducible refine setsU ?_
      refine ⟨(by decide : (2 : Nat) ≤ sizeLine), fun A nA _ => fun x dx nx ndx nd => ?_⟩
      have sA := same_new (o := .lst [V.str "a", V.str "b"]) nA
      have sm := made_mid (o := .ins (He.ga K "Shape") dx []) nx ndx
      refine ⟨x, dx, A, ["a", "b"], 2, rfl, upd_same, (upd_ne nd).trans upd_same, .inr (SqL.of (sm _ _ upd_same)), by decide +kernel, fun y hy => ?_, by decide, by decide, by decide, fun H2 ys k2 perm srt sh2 => ⟨rfl, ?_⟩⟩
      · have l2 : ∀ y ∈ (["a", "b"] : List Str), y.length ≤ sizeLine := by decide +kernel
        exact l2 y hy
      have s2 := sA.trans (made_same nx ndx k2)
      have tabs2 := tabs_same tabs1 s2
      with_reducible refine setsU ?_
      refine ⟨(by decide : (12 : Nat) ≤ sizeLine), fun B nB _ => ?_⟩
      with_reducible refine setsU ?_
      refine ⟨_, rfl, (by decide : (5 : Nat) ≤ sizeLine), fun C nC _ => ⟨B, C, _, _, rfl, rfl, same_new nC _ _ upd_same, upd_same, (by decide : 12 + 5 ≤ sizeLine), fun D nD => ?_⟩⟩
      have sB := same_new (o := .lst [V.str "", V.str "-", V.str "- ", V.str "1", V.str "1 a", V.str "1 a 0", V.str "1 a 0 ", V.str "1 a 0 ,", V.str "1 a 0 , 1 a 1", V.str "1 a 1 , 1 a 0", V.str "0 a 0", V.str "1 a 2"]) nB
      have sC := same_new (o := .lst [V.str "1 a 0 , 1 a 0", V.str "1 b 0 , 1 a 1", V.str "1 c 0", V.str "-1 b 1 , ", V.str "1 a 0 1 b 0"]) nC
      have sD := same_new (o := .lst (someL.map V.str)) nD
      show tRet _ _ _ (upd _ D (.lst (someL.map V.str)))
      have eD : (upd (upd (upd H2 B (.lst [V.str "", V.str "-", V.str "- ", V.str "1", V.str "1 a", V.str "1 a 0", V.str "1 a 0 ", V.str "1 a 0 ,", V.str "1 a 0 , 1 a 1", V.str "1 a 1 , 1 a 0", V.str "0 a 0", V.str "1 a 2"])) C (.lst [V.str "1 a 0 , 1 a 0", V.str "1 b 0 , 1 a 1", V.str "1 c 0", V.str "-1 b 1 , ", V.str "1 a 0 1 b 0"])) D (.lst (someL.map V.str))) D = some (.lst (someL.map V.str)) := upd_same
      have s25 := (sB.trans sC).trans sD
      generalize upd (upd (upd H2 B (.lst [V.str "", V.str "-", V.str "- ", V.str "1", V.str "1 a", V.str "1 a 0", V.str "1 a 0 ", V.str "1 a 0 ,", V.str "1 a 0 , 1 a 1", V.str "1 a 1 , 1 a 0", V.str "0 a 0", V.str "1 a 2"])) C (.lst [V.str "1 a 0 , 1 a 0", V.str "1 b 0 , 1 a 1", V.str "1 c 0", V.str "-1 b 1 , ", V.str "1 a 0 1 b 0"])) D (.lst (someL.map V.str)) = H5 at eD s25 ⊢
      have sh5 := sh2.kp (.of s25)
      have tabs5 := tabs_same tabs2 s25
      with_reducible refine retU ?_
      with_reducible refine opU ?_
      refine ⟨_, rfl, D, someL.map V.str, rfl, .inr (SqL.of eD), fun J wk Z hZ => ?_⟩
      have sZ := same_new (o := .lst []) hZ
      refine lc_it wk (fun i H' => LamX.ExtN H5 H' ∧ LamX.Tabs TS H' ∧ ShapeAt K H' x ys 2 ∧ H' Z = some (.lst [])) ⟨ext_same sZ, tabs_same tabs5 sZ, sh5.kp (.of sZ), upd_same⟩ (fun i H' _ e => ?_) (fun i z H6 H7 lt e yy => ?_) (fun H' e => ?_)
      · refine .of_eq fun o ho => ?_
        rw [eD] at ho
        cases ho
        exact e.1 _ _ eD fun _ z => nomatch z
      · obtain ⟨e6, t6, sh6, eZ⟩ := e
        obtain ⟨rfl, hz⟩ := yy
        rw [List.getElem?_map] at hz
        obtain ⟨t, ht, rfl⟩ := Option.map_eq_some_iff.mp hz
        refine ⟨rfl, _, rfl, _, rfl, x, t, ys, 2, rfl, sh6, some_ok t (List.mem_of_getElem? ht), t6, fun H8 e8 t8 => ⟨_, rfl, ?_⟩⟩
        refine ite2 (fun z => nomatch z) (fun _ => ?_)
        exact ⟨e6.trans e8, t8, sh6.ext e8, e8 _ _ eZ fun _ z => nomatch z⟩
      · obtain ⟨e6, t6, sh6, eZ⟩ := e
        have sh0 := shaped_str (xs := []) rfl
        refine ⟨(by decide : (0 : Nat) ≤ sizeLine), fun l nl _ => .inr ⟨.list [], .list [], .lst (SqL.of (same_new nl _ _ eZ)) .nil, .lst (SqL.of upd_same) .nil, sh0, sh0, ?_⟩⟩
        have ed : PyData.eqv (.list []) (.list []) = true := same_data sh0
        rw [ed]
        exact kk _
end
end L2.K19
set_option Elab.async false
set_option linter.all false
set_option maxRecDepth 100000
set_option maxHeartbeats 4000000
/-! All defs together; the law holds. -/
namespace L2.K19
open PySem PySem.Spec PyProof.Rows L2.RV
/-- the tables, with the names of their lambdas -/
def TSK (K : PySem.W.Frag) : List (Addr × Str) := [((He.cT K ("_law_right", none)).2, qRight), ((He.cT K ("law", none)).2, qLaw)]
theorem two_q {a b : Addr} {x y : Str} (nd : [a, b].Nodup) : ∀ p ∈ [(a, x), (b, y)], (p.1 = a → p.2 = x) ∧ (p.1 = b → p.2 = y) := by
  simp only [List.nodup_cons, List.mem_cons, List.not_mem_nil, or_false] at nd
  obtain ⟨n1, _⟩ := nd
  intro p hp
  simp only [List.mem_cons, List.not_mem_nil, or_false] at hp
  rcases hp with rfl | rfl
  · exact ⟨fun _ => rfl, fun e => absurd e n1⟩
  · exact ⟨fun e => absurd e.symm n1, fun _ => rfl⟩
section
variable {P : Program} {w : World} {K : PySem.W.Frag} {mg : Str → Option Value} {h base : Heap} {f : Addr}
theorem tsk_q (nd : (tf.map fun p => (He.cT K p).2).Nodup) : ∀ p ∈ TSK K, (p.1 = (He.cT K ("_law_right", none)).2 → p.2 = qRight) ∧ (p.1 = (He.cT K ("law", none)).2 → p.2 = qLaw) := two_q nd
theorem def_law_pen (X : K.In h) (G : h.Ns mainGlobals mg) (c : SaysRA chkL fn tabs tf w h K) : Def P w K mg base "_law_pen" 1 ["_law_script"] (spPen K) := by
  obtain ⟨fd, F⟩ := c.def_ 13 (d := d_law_pen) rfl
  exact ⟨_, fd, glo_fn X G c (List.mem_of_getElem? (i := 13) rfl), F.kp, F.bindsN (fun _ _ _ _ _ _ us hl => match us, hl with | [_], _ => rfl), ok_law_pen (top_of X G c) F⟩
theorem def_law_draw (X : K.In h) (G : h.Ns mainGlobals mg) (c : SaysRA chkL fn tabs tf w h K) : Def P w K mg base "_law_draw" 1 ["_law_pen_here", "_law_many"] spDraw := by
  obtain ⟨fd, F⟩ := c.def_ 14 (d := d_law_draw) rfl
  exact ⟨_, fd, glo_fn X G c (List.mem_of_getElem? (i := 14) rfl), F.kp, F.bindsN (fun _ _ _ _ _ _ us hl => match us, hl with | [_, _], _ => rfl), ok_law_draw (top_of X G c) F⟩
theorem def_law_pick (X : K.In h) (G : h.Ns mainGlobals mg) (c : SaysRA chkL fn tabs tf w h K) : Def P w K mg base "_law_pick" 2 ["_law_pen_here", "_law_some_here"] spPick := by
  obtain ⟨fd, F⟩ := c.def_ 15 (d := d_law_pick) rfl
  exact ⟨_, fd, glo_fn X G c (List.mem_of_getElem? (i := 15) rfl), F.kp, F.bindsN (fun _ _ _ _ _ _ us hl => match us, hl with | [_, _], _ => rfl), ok_law_pick (top_of X G c) (def_law_draw X G c) F⟩
theorem def_is_name (X : K.In h) (G : h.Ns mainGlobals mg) (c : SaysRA chkL fn tabs tf w h K) : Def P w K mg base "is_name" 1 ["value"] spName := by
  obtain ⟨fd, F⟩ := c.def_ 2 (d := d_is_name) rfl
  exact ⟨_, fd, glo_fn X G c (List.mem_of_getElem? (i := 2) rfl), F.kp, F.bindsN (fun _ _ _ _ _ _ us hl => match us, hl with | [_], _ => rfl), ok_is_name (top_of X G c) F⟩
theorem def_are_keys (X : K.In h) (G : h.Ns mainGlobals mg) (c : SaysRA chkL fn tabs tf w h K) : Def P w K mg base "are_keys" 2 ["value"] (spAreKeys K) := by
  obtain ⟨fd, F⟩ := c.def_ 7 (d := d_are_keys) rfl
  exact ⟨_, fd, glo_fn X G c (List.mem_of_getElem? (i := 7) rfl), F.kp, F.bindsN (fun _ _ _ _ _ _ us hl => match us, hl with | [_], _ => rfl), ok_are_keys (top_of X G c) (def_is_name X G c) F⟩
theorem def_is_whole (X : K.In h) (G : h.Ns mainGlobals mg) (c : SaysRA chkL fn tabs tf w h K) : Def P w K mg base "is_whole" 1 ["value"] (spWhole K) := by
  obtain ⟨fd, F⟩ := c.def_ 0 (d := d_is_whole) rfl
  exact ⟨_, fd, glo_fn X G c (List.mem_of_getElem? (i := 0) rfl), F.kp, F.bindsN (fun _ _ _ _ _ _ us hl => match us, hl with | [_], _ => rfl), ok_is_whole (top_of X G c) F⟩
theorem def_is_whole_from (X : K.In h) (G : h.Ns mainGlobals mg) (c : SaysRA chkL fn tabs tf w h K) : Def P w K mg base "is_whole_from" 2 ["value", "low", "high"] (spFrom K) := by
  obtain ⟨fd, F⟩ := c.def_ 1 (d := d_is_whole_from) rfl
  exact ⟨_, fd, glo_fn X G c (List.mem_of_getElem? (i := 1) rfl), F.kp, F.bindsN (fun _ _ _ _ _ _ us hl => match us, hl with | [_, _, _], _ => rfl), ok_is_whole_from (top_of X G c) (def_is_whole X G c) F⟩
theorem rz_BadShape (X : K.In h) (G : h.Ns mainGlobals mg) (c : SaysRA chkL fn tabs tf w h K) : RzX P w K mg base "BadShape" (ca K 3) ["part"] := by
  obtain ⟨fd, F⟩ := c.def_ 29 (d := d_BadShape) rfl
  obtain ⟨iC, tI, no⟩ := iniB_ok (List.all_eq_true.mp (ba2 (ba2 (ba2 c.look).1).2).1 _ (List.mem_of_getElem? (i := 0) (a := (("BadShape" : Str), ([("part" : Str)] : List Str))) rfl))
  exact ⟨_, fd, (top_of X G c).c_BadShape, (top_of X G c).ox 3 (by decide), no, iC, tI, ok_init1N (p1 := _) (p2 := _) (q1 := _) (q2 := _) (q3 := _) (q4 := _) F ⟨rfl, rfl, rfl, by decide +kernel, rfl, by decide +kernel, by decide +kernel⟩ (by decide +kernel) (by decide +kernel) (by decide +kernel) (by decide +kernel) (fun _ => rfl), F.bindsN (fun _ _ _ _ _ _ us hl => match us, hl with | [_, _], _ => rfl)⟩
theorem rz_TooMany (X : K.In h) (G : h.Ns mainGlobals mg) (c : SaysRA chkL fn tabs tf w h K) : RzX P w K mg base "TooMany" (ca K 11) ["what", "most"] := by
  obtain ⟨fd, F⟩ := c.def_ 37 (d := d_TooMany) rfl
  obtain ⟨iC, tI, no⟩ := iniB_ok (List.all_eq_true.mp (ba2 (ba2 (ba2 c.look).1).2).1 _ (List.mem_of_getElem? (i := 8) (a := (("TooMany" : Str), ([("what" : Str), ("most" : Str)] : List Str))) rfl))
  exact ⟨_, fd, (top_of X G c).c_TooMany, (top_of X G c).ox 11 (by decide), no, iC, tI, ok_init2N F ⟨rfl, rfl, rfl, by decide +kernel, rfl, by decide +kernel, by decide +kernel⟩ (by decide +kernel) (by decide +kernel) (by decide +kernel) (by decide +kernel) (by decide +kernel) (by decide +kernel) (by decide +kernel) (by decide +kernel) (fun _ => rfl) (fun _ => rfl), F.bindsN (fun _ _ _ _ _ _ us hl => match us, hl with | [_, _, _], _ => rfl)⟩
theorem mx_Shape (X : K.In h) (G : h.Ns mainGlobals mg) (c : SaysRA chkL fn tabs tf w h K) : MakeX (L2.CX P w) P w K mg base "Shape" (He.ga K "Shape") 3 ["self", "keys", "days"] [] (spShapeInit K) := by
  obtain ⟨fd, F⟩ := c.def_ 47 (d := d_Shape_init) rfl
  exact ⟨_, fd, _, (top_of X G c).m_Shape, (top_of X G c).g_Shape, F.bindsN (fun _ _ _ _ _ _ us hl => match us, hl with | [_, _, _], _ => rfl), .nil, ok_shape_init (top_of X G c) (def_are_keys X G c) (def_is_whole_from X G c) (rz_BadShape X G c) (rz_TooMany X G c) F⟩
theorem def_law_shape (X : K.In h) (G : h.Ns mainGlobals mg) (c : SaysRA chkL fn tabs tf w h K) : Def P w K mg base "_law_shape" 5 ["_law_pen_here"] (spLShape K) := by
  obtain ⟨fd, F⟩ := c.def_ 16 (d := d_law_shape) rfl
  exact ⟨_, fd, glo_fn X G c (List.mem_of_getElem? (i := 16) rfl), F.kp, F.bindsN (fun _ _ _ _ _ _ us hl => match us, hl with | [_], _ => rfl), ok_law_shape (top_of X G c) (def_law_draw X G c) (def_law_pick X G c) (mx_Shape X G c) F⟩
theorem def_law_weights (X : K.In h) (G : h.Ns mainGlobals mg) (c : SaysRA chkL fn tabs tf w h K) : Def P w K mg base "_law_weights" 3 ["_law_pen_here", "_law_shape_here"] (spLWeights K) := by
  obtain ⟨fd, F⟩ := c.def_ 17 (d := d_law_weights) rfl
  exact ⟨_, fd, glo_fn X G c (List.mem_of_getElem? (i := 17) rfl), F.kp, F.bindsN (fun _ _ _ _ _ _ us hl => match us, hl with | [_, _], _ => rfl), ok_law_weights (top_of X G c) (def_law_draw X G c) (def_law_pick X G c) F⟩
theorem def_law_text (X : K.In h) (G : h.Ns mainGlobals mg) (c : SaysRA chkL fn tabs tf w h K) : Def P w K mg base "_law_text" 1 ["_law_shape_here", "_law_weights_here"] (spLText K) := by
  obtain ⟨fd, F⟩ := c.def_ 22 (d := d_law_text) rfl
  exact ⟨_, fd, glo_fn X G c (List.mem_of_getElem? (i := 22) rfl), F.kp, F.bindsN (fun _ _ _ _ _ _ us hl => match us, hl with | [_, _], _ => rfl), ok_law_text (top_of X G c) F⟩
theorem def_law_bent (X : K.In h) (G : h.Ns mainGlobals mg) (c : SaysRA chkL fn tabs tf w h K) : Def P w K mg base "_law_bent" 3 ["_law_pen_here", "_law_page"] spLBent := by
  obtain ⟨fd, F⟩ := c.def_ 24 (d := d_law_bent) rfl
  exact ⟨_, fd, glo_fn X G c (List.mem_of_getElem? (i := 24) rfl), F.kp, F.bindsN (fun _ _ _ _ _ _ us hl => match us, hl with | [_, _], _ => rfl), ok_law_bent (top_of X G c) (def_law_draw X G c) (def_law_pick X G c) F⟩
theorem def_law_is_number (X : K.In h) (G : h.Ns mainGlobals mg) (c : SaysRA chkL fn tabs tf w h K) : Def P w K mg base "_law_is_number" 1 ["_law_word"] spLIsNum := by
  obtain ⟨fd, F⟩ := c.def_ 18 (d := d_law_is_number) rfl
  exact ⟨_, fd, glo_fn X G c (List.mem_of_getElem? (i := 18) rfl), F.kp, F.bindsN (fun _ _ _ _ _ _ us hl => match us, hl with | [_], _ => rfl), ok_law_is_number (top_of X G c) F⟩
theorem def_law_day (X : K.In h) (G : h.Ns mainGlobals mg) (c : SaysRA chkL fn tabs tf w h K) : Def P w K mg base "_law_day" 2 ["_law_word"] spLDay := by
  obtain ⟨fd, F⟩ := c.def_ 20 (d := d_law_day) rfl
  exact ⟨_, fd, glo_fn X G c (List.mem_of_getElem? (i := 20) rfl), F.kp, F.bindsN (fun _ _ _ _ _ _ us hl => match us, hl with | [_], _ => rfl), ok_law_day (top_of X G c) (def_law_is_number X G c) F⟩
theorem def_law_place_wrong (X : K.In h) (G : h.Ns mainGlobals mg) (c : SaysRA chkL fn tabs tf w h K) : Def P w K mg base "_law_place_wrong" 3 ["_law_shape_here", "_law_words", "_law_at", "_law_last"] (spPlaceWrong K) := by
  obtain ⟨fd, F⟩ := c.def_ 19 (d := d_law_place_wrong) rfl
  exact ⟨_, fd, glo_fn X G c (List.mem_of_getElem? (i := 19) rfl), F.kp, F.bindsN (fun _ _ _ _ _ _ us hl => match us, hl with | [_, _, _, _], _ => rfl), ok_law_place_wrong (top_of X G c) (def_law_day X G c) F⟩
theorem def_law_rows_wrong (X : K.In h) (G : h.Ns mainGlobals mg) (c : SaysRA chkL fn tabs tf w h K) : Def P w K mg base "_law_rows_wrong" 4 ["_law_shape_here", "_law_words"] (spRowsWrong K) := by
  obtain ⟨fd, F⟩ := c.def_ 21 (d := d_law_rows_wrong) rfl
  exact ⟨_, fd, glo_fn X G c (List.mem_of_getElem? (i := 21) rfl), F.kp, F.bindsN (fun _ _ _ _ _ _ us hl => match us, hl with | [_, _], _ => rfl), ok_law_rows_wrong (top_of X G c) (def_law_is_number X G c) (def_law_place_wrong X G c) F⟩
theorem def_whole_text (X : K.In h) (G : h.Ns mainGlobals mg) (c : SaysRA chkL fn tabs tf w h K) : Def P w K mg base "whole_text" 1 ["number"] spWhEx := by
  obtain ⟨fd, F⟩ := c.def_ 3 (d := d_whole_text) rfl
  exact ⟨_, fd, glo_fn X G c (List.mem_of_getElem? (i := 3) rfl), F.kp, F.bindsN (fun _ _ _ _ _ _ us hl => match us, hl with | [_], _ => rfl), ok_whole_text (top_of X G c) F⟩
theorem m_Shape_contains (X : K.In h) (G : h.Ns mainGlobals mg) (c : SaysRA chkL fn tabs tf w h K) : MethS CX0 P w K mg base (He.ga K "Shape") "__contains__" 3 ["self", "x"] (spShapeIn K) := by
  obtain ⟨fd, F⟩ := c.def_ 49 (d := d_Shape_contains) rfl
  exact ⟨_, fd, (top_of X G c).m_Shape___contains__, fi_of F, F.bindsN (fun _ _ _ _ _ _ us hl => match us, hl with | [_, _], _ => rfl), ok_shape_in (top_of X G c) (def_is_whole X G c) F⟩
theorem rz_BadPlace (X : K.In h) (G : h.Ns mainGlobals mg) (c : SaysRA chkL fn tabs tf w h K) : RzX P w K mg base "BadPlace" (ca K 7) ["value"] := by
  obtain ⟨fd, F⟩ := c.def_ 33 (d := d_BadPlace) rfl
  obtain ⟨iC, tI, no⟩ := iniB_ok (List.all_eq_true.mp (ba2 (ba2 (ba2 c.look).1).2).1 _ (List.mem_of_getElem? (i := 4) (a := (("BadPlace" : Str), ([("value" : Str)] : List Str))) rfl))
  exact ⟨_, fd, (top_of X G c).c_BadPlace, (top_of X G c).ox 7 (by decide), no, iC, tI, ok_init1N (p1 := _) (p2 := _) (q1 := _) (q2 := _) (q3 := _) (q4 := _) F ⟨rfl, rfl, rfl, by decide +kernel, rfl, by decide +kernel, by decide +kernel⟩ (by decide +kernel) (by decide +kernel) (by decide +kernel) (by decide +kernel) (fun _ => rfl), F.bindsN (fun _ _ _ _ _ _ us hl => match us, hl with | [_, _], _ => rfl)⟩
theorem m_Question_getitem (X : K.In h) (G : h.Ns mainGlobals mg) (c : SaysRA chkL fn tabs tf w h K) : MethS (L2.CX P w) P w K mg base (He.ga K "Question") "__getitem__" 4 ["self", "at"] (spAt K "Question" "weights") := by
  obtain ⟨fd, F⟩ := c.def_ 53 (d := d_Question_getitem) rfl
  exact ⟨_, fd, (top_of X G c).m_Question___getitem__, fi_of F, F.bindsN (fun _ _ _ _ _ _ us hl => match us, hl with | [_, _], _ => rfl), ok_Question_at (top_of X G c) (m_Shape_contains X G c) (rz_BadPlace X G c) F⟩
theorem m_Question_str (X : K.In h) (G : h.Ns mainGlobals mg) (c : SaysRA chkL fn tabs tf w h K) : MethS CX0 P w K mg base (He.ga K "Question") "__str__" 6 ["self"] (spQStr K) := by
  obtain ⟨fd, F⟩ := c.def_ 55 (d := d_Question_str) rfl
  exact ⟨_, fd, (top_of X G c).m_Question___str__, fi_of F, F.bindsN (fun _ _ _ _ _ _ us hl => match us, hl with | [_], _ => rfl), ok_question_str (top_of X G c) (def_whole_text X G c) (m_Question_getitem X G c) F⟩
theorem rz_BadQuestion (X : K.In h) (G : h.Ns mainGlobals mg) (c : SaysRA chkL fn tabs tf w h K) : RzX P w K mg base "BadQuestion" (ca K 6) ["part"] := by
  obtain ⟨fd, F⟩ := c.def_ 32 (d := d_BadQuestion) rfl
  obtain ⟨iC, tI, no⟩ := iniB_ok (List.all_eq_true.mp (ba2 (ba2 (ba2 c.look).1).2).1 _ (List.mem_of_getElem? (i := 3) (a := (("BadQuestion" : Str), ([("part" : Str)] : List Str))) rfl))
  exact ⟨_, fd, (top_of X G c).c_BadQuestion, (top_of X G c).ox 6 (by decide), no, iC, tI, ok_init1N (p1 := _) (p2 := _) (q1 := _) (q2 := _) (q3 := _) (q4 := _) F ⟨rfl, rfl, rfl, by decide +kernel, rfl, by decide +kernel, by decide +kernel⟩ (by decide +kernel) (by decide +kernel) (by decide +kernel) (by decide +kernel) (fun _ => rfl), F.bindsN (fun _ _ _ _ _ _ us hl => match us, hl with | [_, _], _ => rfl)⟩
theorem dex_check_shape_questions_ok_chk_shape_any (X : K.In h) (G : h.Ns mainGlobals mg) (c : SaysRA chkL fn tabs tf w h K) : DefX (L2.CX P w) P w K mg base "check_shape_questions" 3 ["shape"] (spChkShape K) := by
  obtain ⟨fd, F⟩ := c.def_ 28 (d := d_check_shape_questions) rfl
  exact ⟨_, fd, glo_fn X G c (List.mem_of_getElem? (i := 28) rfl), F.kp, F.bindsN (fun _ _ _ _ _ _ us hl => match us, hl with | [_], _ => rfl), ok_chk_shape_any (top_of X G c) (rz_BadQuestion X G c) F, fun p e s u => by cases e; exact bind_ofN F (fun _ _ _ _ _ _ => rfl) s⟩
theorem rz_BadText (X : K.In h) (G : h.Ns mainGlobals mg) (c : SaysRA chkL fn tabs tf w h K) : RzX P w K mg base "BadText" (ca K 10) ["line", "word"] := by
  obtain ⟨fd, F⟩ := c.def_ 36 (d := d_BadText) rfl
  obtain ⟨iC, tI, no⟩ := iniB_ok (List.all_eq_true.mp (ba2 (ba2 (ba2 c.look).1).2).1 _ (List.mem_of_getElem? (i := 7) (a := (("BadText" : Str), ([("line" : Str), ("word" : Str)] : List Str))) rfl))
  exact ⟨_, fd, (top_of X G c).c_BadText, (top_of X G c).ox 10 (by decide), no, iC, tI, ok_init2N F ⟨rfl, rfl, rfl, by decide +kernel, rfl, by decide +kernel, by decide +kernel⟩ (by decide +kernel) (by decide +kernel) (by decide +kernel) (by decide +kernel) (by decide +kernel) (by decide +kernel) (by decide +kernel) (by decide +kernel) (fun _ => rfl) (fun _ => rfl), F.bindsN (fun _ _ _ _ _ _ us hl => match us, hl with | [_, _, _], _ => rfl)⟩
theorem mx_Words (X : K.In h) (G : h.Ns mainGlobals mg) (c : SaysRA chkL fn tabs tf w h K) : MakeX CX0 P w K mg base "Words" (cW K) 1 ["self", "words", "at", "line"] [] (spWInit K) := by
  obtain ⟨fd, F⟩ := c.def_ 38 (d := d_Words_init) rfl
  exact ⟨_, fd, _, (top_of X G c).m_Words, (top_of X G c).g_Words, F.bindsN (fun _ _ _ _ _ _ us hl => match us, hl with | [_, _, _, _], _ => rfl), .nil, ok_w_init (top_of X G c) F⟩
theorem dxd_words_of (X : K.In h) (G : h.Ns mainGlobals mg) (c : SaysRA chkL fn tabs tf w h K) : DefXD (L2.CX P w) P w K mg base "words_of" 4 ["text", "line"] [.int 0] (spWordsA K) := by
  obtain ⟨fd, F⟩ := c.def_ 6 (d := d_words_of) rfl
  obtain ⟨ds, vd, bd⟩ := FunD.binds1 (ps := ["text", "line"]) F 1 0 (by simp [d_words_of, He5.DefA.dvs]) rfl (fun T kV doc pm an cdv ct us its hu hi => by
    match us, its, hu, hi with
    | [_], [_], _, _ => exact ⟨_, rfl, rfl⟩)
  exact ⟨_, fd, ds, glo_fn X G c (List.mem_of_getElem? (i := 6) rfl), F.kp, bd, vd, ok_words_any (top_of X G c) (rz_BadText X G c) (mx_Words X G c) F⟩
theorem mx_Words_peek (X : K.In h) (G : h.Ns mainGlobals mg) (c : SaysRA chkL fn tabs tf w h K) : MethX CX0 P w K mg base (cW K) "peek" 1 ["self"] (spPeek K) := by
  obtain ⟨fd, F⟩ := c.def_ 40 (d := d_Words_peek) rfl
  exact ⟨_, fd, (top_of X G c).m_Words_peek, F.bindsN (fun _ _ _ _ _ _ us hl => match us, hl with | [_], _ => rfl), ok_w_peek (top_of X G c) F⟩
theorem mx_Words_refuse (X : K.In h) (G : h.Ns mainGlobals mg) (c : SaysRA chkL fn tabs tf w h K) : MethX (L2.CX P w) P w K mg base (cW K) "refuse" 3 ["self"] (spRefuse K) := by
  obtain ⟨fd, F⟩ := c.def_ 39 (d := d_Words_refuse) rfl
  exact ⟨_, fd, (top_of X G c).m_Words_refuse, F.bindsN (fun _ _ _ _ _ _ us hl => match us, hl with | [_], _ => rfl), ok_w_refuse (top_of X G c) (rz_BadText X G c) F⟩
theorem mx_Words_behind (X : K.In h) (G : h.Ns mainGlobals mg) (c : SaysRA chkL fn tabs tf w h K) : MethX (L2.CX P w) P w K mg base (cW K) "behind" 4 ["self"] (spBehind K) := by
  obtain ⟨fd, F⟩ := c.def_ 41 (d := d_Words_behind) rfl
  exact ⟨_, fd, (top_of X G c).m_Words_behind, F.bindsN (fun _ _ _ _ _ _ us hl => match us, hl with | [_], _ => rfl), ok_w_behind (top_of X G c) (mx_Words_peek X G c) (mx_Words_refuse X G c) (mx_Words X G c) F⟩
theorem def_whole_of (X : K.In h) (G : h.Ns mainGlobals mg) (c : SaysRA chkL fn tabs tf w h K) : Def P w K mg base "whole_of" 1 ["word"] spWholeOf := by
  obtain ⟨fd, F⟩ := c.def_ 5 (d := d_whole_of) rfl
  exact ⟨_, fd, glo_fn X G c (List.mem_of_getElem? (i := 5) rfl), F.kp, F.bindsN (fun _ _ _ _ _ _ us hl => match us, hl with | [_], _ => rfl), ok_whole_of (top_of X G c) F⟩
theorem def_is_whole_text (X : K.In h) (G : h.Ns mainGlobals mg) (c : SaysRA chkL fn tabs tf w h K) : Def P w K mg base "is_whole_text" 1 ["word"] spWText := by
  obtain ⟨fd, F⟩ := c.def_ 4 (d := d_is_whole_text) rfl
  exact ⟨_, fd, glo_fn X G c (List.mem_of_getElem? (i := 4) rfl), F.kp, F.bindsN (fun _ _ _ _ _ _ us hl => match us, hl with | [_], _ => rfl), ok_is_whole_text (top_of X G c) F⟩
theorem mx_Words_is_at_whole (X : K.In h) (G : h.Ns mainGlobals mg) (c : SaysRA chkL fn tabs tf w h K) : MethX CX0 P w K mg base (cW K) "is_at_whole" 3 ["self"] (spIsAtWhole K) := by
  obtain ⟨fd, F⟩ := c.def_ 44 (d := d_Words_is_at_whole) rfl
  exact ⟨_, fd, (top_of X G c).m_Words_is_at_whole, F.bindsN (fun _ _ _ _ _ _ us hl => match us, hl with | [_], _ => rfl), ok_w_is_at_whole (top_of X G c) (def_is_whole_text X G c) (mx_Words_peek X G c) F⟩
theorem mx_Words_take_whole (X : K.In h) (G : h.Ns mainGlobals mg) (c : SaysRA chkL fn tabs tf w h K) : MethX (L2.CX P w) P w K mg base (cW K) "take_whole" 5 ["self"] (spTakeWhole K) := by
  obtain ⟨fd, F⟩ := c.def_ 45 (d := d_Words_take_whole) rfl
  exact ⟨_, fd, (top_of X G c).m_Words_take_whole, F.bindsN (fun _ _ _ _ _ _ us hl => match us, hl with | [_], _ => rfl), ok_w_take_whole (top_of X G c) (def_whole_of X G c) (mx_Words_is_at_whole X G c) (mx_Words_peek X G c) (mx_Words_refuse X G c) (mx_Words_behind X G c) F⟩
theorem dex_take_weight (X : K.In h) (G : h.Ns mainGlobals mg) (c : SaysRA chkL fn tabs tf w h K) : DefX (L2.CX P w) P w K mg base "take_weight" 6 ["words"] (spTakeWeight K) := by
  obtain ⟨fd, F⟩ := c.def_ 11 (d := d_take_weight) rfl
  exact ⟨_, fd, glo_fn X G c (List.mem_of_getElem? (i := 11) rfl), F.kp, F.bindsN (fun _ _ _ _ _ _ us hl => match us, hl with | [_], _ => rfl), ok_take_weight (top_of X G c) (mx_Words_peek X G c) (mx_Words_refuse X G c) (mx_Words_take_whole X G c) F, fun p e s u => by cases e; exact bind_ofN F (fun _ _ _ _ _ _ => rfl) s⟩
theorem mx_Words_behind_one (X : K.In h) (G : h.Ns mainGlobals mg) (c : SaysRA chkL fn tabs tf w h K) : MethX (L2.CX P w) P w K mg base (cW K) "behind_one" 5 ["self", "choices"] (spBehindOne K) := by
  obtain ⟨fd, F⟩ := c.def_ 42 (d := d_Words_behind_one) rfl
  exact ⟨_, fd, (top_of X G c).m_Words_behind_one, F.bindsN (fun _ _ _ _ _ _ us hl => match us, hl with | [_, _], _ => rfl), ok_w_behind_one (top_of X G c) (mx_Words_peek X G c) (mx_Words_refuse X G c) (mx_Words_behind X G c) F⟩
theorem mx_Words_take_one (X : K.In h) (G : h.Ns mainGlobals mg) (c : SaysRA chkL fn tabs tf w h K) : MethX (L2.CX P w) P w K mg base (cW K) "take_one" 6 ["self", "choices"] (spTakeOne K) := by
  obtain ⟨fd, F⟩ := c.def_ 43 (d := d_Words_take_one) rfl
  exact ⟨_, fd, (top_of X G c).m_Words_take_one, F.bindsN (fun _ _ _ _ _ _ us hl => match us, hl with | [_, _], _ => rfl), ok_w_take_one (top_of X G c) (mx_Words_peek X G c) (mx_Words_behind_one X G c) F⟩
theorem dex_take_place (X : K.In h) (G : h.Ns mainGlobals mg) (c : SaysRA chkL fn tabs tf w h K) : DefX (L2.CX P w) P w K mg base "take_place" 7 ["words", "shape", "after"] (spTakePlace K) := by
  obtain ⟨fd, F⟩ := c.def_ 8 (d := d_take_place) rfl
  obtain ⟨ds, vd, bd⟩ := FunD.binds1 (ps := ["words", "shape", "after"]) F 3 1 (by simp [d_take_place, He5.DefA.dvs]) rfl (fun T kV doc pm an cdv ct us its hu hi => by
    match us, its, hu, hi with
    | [_, _, _], [_], _, _ => exact ⟨_, rfl, rfl⟩)
  have e : ds = [] := by cases vd; rfl
  subst e
  exact ⟨_, fd, glo_fn X G c (List.mem_of_getElem? (i := 8) rfl), F.kp, bd, ok_take_place (top_of X G c) (mx_Words_take_one X G c) F, fun p e => by cases e⟩
theorem dxd_take_place (X : K.In h) (G : h.Ns mainGlobals mg) (c : SaysRA chkL fn tabs tf w h K) : DefXD (L2.CX P w) P w K mg base "take_place" 7 ["words", "shape", "after"] [.int (-1)] (spTakePlace K) := by
  obtain ⟨fd, F⟩ := c.def_ 8 (d := d_take_place) rfl
  obtain ⟨ds, vd, bd⟩ := FunD.binds1 (ps := ["words", "shape", "after"]) F 2 0 (by simp [d_take_place, He5.DefA.dvs]) rfl (fun T kV doc pm an cdv ct us its hu hi => by
    match us, its, hu, hi with
    | [_, _], [_], _, _ => exact ⟨_, rfl, rfl⟩)
  exact ⟨_, fd, ds, glo_fn X G c (List.mem_of_getElem? (i := 8) rfl), F.kp, bd, vd, ok_take_place (top_of X G c) (mx_Words_take_one X G c) F⟩
theorem mx_Shape_index_of (X : K.In h) (G : h.Ns mainGlobals mg) (c : SaysRA chkL fn tabs tf w h K) : MethX (L2.CX P w) P w K mg base (He.ga K "Shape") "index_of" 4 ["self", "place"] (spIndexOf K) := by
  obtain ⟨fd, F⟩ := c.def_ 48 (d := d_Shape_index_of) rfl
  exact ⟨_, fd, (top_of X G c).m_Shape_index_of, F.bindsN (fun _ _ _ _ _ _ us hl => match us, hl with | [_, _], _ => rfl), ok_Shape_index_of (top_of X G c) (m_Shape_contains X G c) (rz_BadPlace X G c) F⟩
theorem dex_take_weights (X : K.In h) (G : h.Ns mainGlobals mg) (c : SaysRA chkL fn tabs tf w h K) : DefX (L2.CX P w) P w K mg base "take_weights" 8 ["words", "shape"] (spTakeWeights K) := by
  obtain ⟨fd, F⟩ := c.def_ 12 (d := d_take_weights) rfl
  exact ⟨_, fd, glo_fn X G c (List.mem_of_getElem? (i := 12) rfl), F.kp, F.bindsN (fun _ _ _ _ _ _ us hl => match us, hl with | [_, _], _ => rfl), ok_take_weights (top_of X G c) (mx_Words_peek X G c) (mx_Words_behind X G c) (dex_take_weight X G c) (dex_take_place X G c) (dxd_take_place X G c) (mx_Shape_index_of X G c) F, fun p e => by cases e⟩
theorem mx_Words_end (X : K.In h) (G : h.Ns mainGlobals mg) (c : SaysRA chkL fn tabs tf w h K) : MethX (L2.CX P w) P w K mg base (cW K) "end" 4 ["self"] (spEnd K) := by
  obtain ⟨fd, F⟩ := c.def_ 46 (d := d_Words_end) rfl
  exact ⟨_, fd, (top_of X G c).m_Words_end, F.bindsN (fun _ _ _ _ _ _ us hl => match us, hl with | [_], _ => rfl), ok_w_end (top_of X G c) (mx_Words_refuse X G c) F⟩
theorem dex_check_shape_questions (X : K.In h) (G : h.Ns mainGlobals mg) (c : SaysRA chkL fn tabs tf w h K) : DefX (L2.CX P w) P w K mg base "check_shape_questions" 3 ["shape"] (spIns K "Shape") := by
  obtain ⟨fd, F⟩ := c.def_ 28 (d := d_check_shape_questions) rfl
  exact ⟨_, fd, glo_fn X G c (List.mem_of_getElem? (i := 28) rfl), F.kp, F.bindsN (fun _ _ _ _ _ _ us hl => match us, hl with | [_], _ => rfl), ok_check_shape_questions (top_of X G c) (rz_BadQuestion X G c) F, fun p e s u => by cases e; exact bind_ofN F (fun _ _ _ _ _ _ => rfl) s⟩
theorem rz_BadAmount (X : K.In h) (G : h.Ns mainGlobals mg) (c : SaysRA chkL fn tabs tf w h K) : RzX P w K mg base "BadAmount" (ca K 8) ["value"] := by
  obtain ⟨fd, F⟩ := c.def_ 34 (d := d_BadAmount) rfl
  obtain ⟨iC, tI, no⟩ := iniB_ok (List.all_eq_true.mp (ba2 (ba2 (ba2 c.look).1).2).1 _ (List.mem_of_getElem? (i := 5) (a := (("BadAmount" : Str), ([("value" : Str)] : List Str))) rfl))
  exact ⟨_, fd, (top_of X G c).c_BadAmount, (top_of X G c).ox 8 (by decide), no, iC, tI, ok_init1N (p1 := _) (p2 := _) (q1 := _) (q2 := _) (q3 := _) (q4 := _) F ⟨rfl, rfl, rfl, by decide +kernel, rfl, by decide +kernel, by decide +kernel⟩ (by decide +kernel) (by decide +kernel) (by decide +kernel) (by decide +kernel) (fun _ => rfl), F.bindsN (fun _ _ _ _ _ _ us hl => match us, hl with | [_, _], _ => rfl)⟩
theorem dex_check_amounts (X : K.In h) (G : h.Ns mainGlobals mg) (c : SaysRA chkL fn tabs tf w h K) : DefX (L2.CX P w) P w K mg base "check_amounts" 4 ["shape", "amounts"] (spAmounts K) := by
  obtain ⟨fd, F⟩ := c.def_ 10 (d := d_check_amounts) rfl
  exact ⟨_, fd, glo_fn X G c (List.mem_of_getElem? (i := 10) rfl), F.kp, F.bindsN (fun _ _ _ _ _ _ us hl => match us, hl with | [_, _], _ => rfl), ok_check_amounts (top_of X G c) (m_Shape_contains X G c) (def_is_whole X G c) (rz_BadPlace X G c) (rz_BadAmount X G c) F, fun p e => by cases e⟩
theorem rz_BadPart (X : K.In h) (G : h.Ns mainGlobals mg) (c : SaysRA chkL fn tabs tf w h K) : RzX P w K mg base "BadPart" (ca K 5) ["part"] := by
  obtain ⟨fd, F⟩ := c.def_ 31 (d := d_BadPart) rfl
  obtain ⟨iC, tI, no⟩ := iniB_ok (List.all_eq_true.mp (ba2 (ba2 (ba2 c.look).1).2).1 _ (List.mem_of_getElem? (i := 2) (a := (("BadPart" : Str), ([("part" : Str)] : List Str))) rfl))
  exact ⟨_, fd, (top_of X G c).c_BadPart, (top_of X G c).ox 5 (by decide), no, iC, tI, ok_init1N (p1 := _) (p2 := _) (q1 := _) (q2 := _) (q3 := _) (q4 := _) F ⟨rfl, rfl, rfl, by decide +kernel, rfl, by decide +kernel, by decide +kernel⟩ (by decide +kernel) (by decide +kernel) (by decide +kernel) (by decide +kernel) (fun _ => rfl), F.bindsN (fun _ _ _ _ _ _ us hl => match us, hl with | [_, _], _ => rfl)⟩
theorem dex_check_shape_parts (X : K.In h) (G : h.Ns mainGlobals mg) (c : SaysRA chkL fn tabs tf w h K) : DefX (L2.CX P w) P w K mg base "check_shape_parts" 3 ["shape"] (spIns K "Shape") := by
  obtain ⟨fd, F⟩ := c.def_ 27 (d := d_check_shape_parts) rfl
  exact ⟨_, fd, glo_fn X G c (List.mem_of_getElem? (i := 27) rfl), F.kp, F.bindsN (fun _ _ _ _ _ _ us hl => match us, hl with | [_], _ => rfl), ok_check_shape_parts (top_of X G c) (rz_BadPart X G c) F, fun p e s u => by cases e; exact bind_ofN F (fun _ _ _ _ _ _ => rfl) s⟩
theorem dex_check_places (X : K.In h) (G : h.Ns mainGlobals mg) (c : SaysRA chkL fn tabs tf w h K) : DefX (L2.CX P w) P w K mg base "check_places" 4 ["shape", "places"] (spPlaces K) := by
  obtain ⟨fd, F⟩ := c.def_ 9 (d := d_check_places) rfl
  exact ⟨_, fd, glo_fn X G c (List.mem_of_getElem? (i := 9) rfl), F.kp, F.bindsN (fun _ _ _ _ _ _ us hl => match us, hl with | [_, _], _ => rfl), ok_check_places (top_of X G c) (m_Shape_contains X G c) (rz_BadPlace X G c) F, fun p e => by cases e⟩
theorem mr_Part (X : K.In h) (G : h.Ns mainGlobals mg) (c : SaysRA chkL fn tabs tf w h K) : MakeR CX0 P w K mg base "Part" (He.ga K "Part") 6 (spPart K) := by
  obtain ⟨fd, F⟩ := c.def_ 51 (d := d_Part_init) rfl
  exact ⟨_, (top_of X G c).m_Part, (top_of X G c).g_Part, ok_part_init (top_of X G c) (dex_check_shape_parts X G c) (dex_check_places X G c) F⟩
theorem mx_Question (X : K.In h) (G : h.Ns mainGlobals mg) (c : SaysRA chkL fn tabs tf w h K) : MakeX (L2.CX P w) P w K mg base "Question" (He.ga K "Question") 8 ["self", "shape", "weights"] [] (spQuestion K) := by
  obtain ⟨fd, F⟩ := c.def_ 52 (d := d_Question_init) rfl
  exact ⟨_, fd, _, (top_of X G c).m_Question, (top_of X G c).g_Question, F.bindsN (fun _ _ _ _ _ _ us hl => match us, hl with | [_, _, _], _ => rfl), .nil, ok_question_init (top_of X G c) (dex_check_shape_questions X G c) (dex_check_amounts X G c) (mr_Part X G c) (rz_BadQuestion X G c) F⟩
theorem cm_Question_read (X : K.In h) (G : h.Ns mainGlobals mg) (c : SaysRA chkL fn tabs tf w h K) : CMethX (L2.CX P w) P w K mg base (He.ga K "Question") "read" 10 ["cls", "text", "shape"] ["shape", "text"] (spRead K) := by
  obtain ⟨fd, F⟩ := c.def_ 56 (d := d_Question_read) rfl
  exact ⟨_, _, _, fd, (top_of X G c).o_Question.read, (top_of X G c).cm_Question_read, F.bindsN (fun _ _ _ _ _ _ us hl => match us, hl with | [_, _, _], _ => rfl), ok_Question_read (top_of X G c) (dex_check_shape_questions_ok_chk_shape_any X G c) (dxd_words_of X G c) (dex_take_weights X G c) (mx_Words_end X G c) (mx_Question X G c) F, kbn_of F 1 _ (fun us ws => us ++ ws.reverse) (fun r1 r2 => r1.append (vals_rev r2)) (fun _ _ _ _ _ _ us ws l1 l2 => match us, ws, l1, l2 with | [_], [_, _], _, _ => rfl)⟩
theorem lam_law_heard (X : K.In h) (G : h.Ns mainGlobals mg) (c : SaysRA chkL fn tabs tf w h K) : LamD K mg "_law_heard" "_law_ask" s_law_heard := by
  obtain ⟨fd, F⟩ := c.def_ 23 (d := d_law_heard) rfl
  exact lamD_of F (glo_fn X G c (List.mem_of_getElem? (i := 23) rfl)) (F.bindsN (fun _ _ _ _ _ _ us hl => match us, hl with | [_], _ => rfl))
theorem deg_law_right (X : K.In h) (G : h.Ns mainGlobals mg) (c : SaysRA chkL fn tabs tf w h K) (nd : (tf.map fun p => (He.cT K p).2).Nodup) (tb : ∀ p ∈ tf, LamX.TabB base mg (He.cT K p).1 (He.cT K p).2) : DefG P w K mg base "_law_right" 13 ["_law_shape_here", "_law_page"] (spLRight K (TSK K)) := by
  obtain ⟨fd, F⟩ := c.def_ 25 (d := d_law_right) rfl
  exact ⟨_, fd, glo_fn X G c (List.mem_of_getElem? (i := 25) rfl), F.kp, F.bindsN (fun _ _ _ _ _ _ us hl => match us, hl with | [_, _], _ => rfl), ok_law_right (top_of X G c) (topK_of c) (no_field c 3 rfl "part" (by simp)) (no_field c 7 rfl "line" (by simp)) (no_field c 7 rfl "word" (by simp)) (def_law_rows_wrong X G c) (m_Question_str X G c) (cm_Question_read X G c) (lam_law_heard X G c) (tb _ (by simp [tf])) (by simp [TSK]) (fun p hp e => (tsk_q nd p hp).1 e) F⟩
theorem m_Shape_eq (X : K.In h) (G : h.Ns mainGlobals mg) (c : SaysRA chkL fn tabs tf w h K) : MethS CX0 P w K mg base (He.ga K "Shape") "__eq__" 2 ["self", "other"] (spShapeEq K) := by
  obtain ⟨fd, F⟩ := c.def_ 50 (d := d_Shape_eq) rfl
  exact ⟨_, fd, (top_of X G c).m_Shape___eq__, fi_of F, F.bindsN (fun _ _ _ _ _ _ us hl => match us, hl with | [_, _], _ => rfl), ok_shape_eq (top_of X G c) F⟩
theorem m_Question_eq (X : K.In h) (G : h.Ns mainGlobals mg) (c : SaysRA chkL fn tabs tf w h K) : MethS CX0 P w K mg base (He.ga K "Question") "__eq__" 4 ["self", "other"] (spQEq K) := by
  obtain ⟨fd, F⟩ := c.def_ 54 (d := d_Question_eq) rfl
  exact ⟨_, fd, (top_of X G c).m_Question___eq__, fi_of F, F.bindsN (fun _ _ _ _ _ _ us hl => match us, hl with | [_, _], _ => rfl), ok_question_eq (top_of X G c) (m_Shape_eq X G c) F⟩
theorem facts (X : K.In h) (G : h.Ns mainGlobals mg) (hfa : mg ("law" : Str) = some (.ref f)) (c : SaysRA chkL fn tabs tf w h K) (nd : (tf.map fun p => (He.cT K p).2).Nodup) :
    ∃ fd : FuncData, (∀ (s : Shared) (v : Value), BindsTo s fd ⟨[v], []⟩ [("_law_script", v)]) ∧ ∀ base : Heap, K.In base → base.Ns mainGlobals mg → (∀ p ∈ tf, LamX.TabB base mg (He.cT K p).1 (He.cT K p).2) → FnG P w K mg base CX0 15 f fd ["_law_script"] (spLaw K (TSK K)) := by
  obtain ⟨fd, F⟩ := c.def_ 26 (d := d_law) rfl
  have e := hfa.symm.trans (glo_fn X G c (x := "law") (List.mem_of_getElem? (i := 26) rfl))
  cases e
  have b := FunD.bindsA (ps := ["_law_script"]) F fun _ _ _ _ _ _ us hl => match us, hl with | [_], _ => rfl
  exact ⟨fd, fun s v => b s [v] rfl, fun base _ _ tb => ok_law (top_of X G c) (topK_of c) (no_field c 3 rfl "part" (by simp)) (no_field c 7 rfl "line" (by simp)) (no_field c 7 rfl "word" (by simp)) (def_law_pen X G c) (def_law_shape X G c) (def_law_weights X G c) (def_law_text X G c) (def_law_bent X G c) (def_law_pick X G c) (deg_law_right X G c nd tb) (mx_Shape X G c) (mx_Question X G c) (m_Question_str X G c) (m_Question_eq X G c) (cm_Question_read X G c) (lam_law_heard X G c) (tb _ (by simp [tf])) (by simp [TSK]) (fun p hp e => (tsk_q nd p hp).2 e) F⟩
end
end L2.K19
open PySem PySem.W PySem.Calls PyProof.Rows
theorem PySem.Challenge.cw_rowvault_k19_texts_of_questions_holds : PySem.Challenge.rw_rowvault_k19_texts_of_questions.Holds := by
  w_on; o_law
  refine HandSHeadRun.head_any (r := OpenLaw.row PySem.Challenge.rw_rowvault_k19_texts_of_questions) (q := view (OpenLaw.row PySem.Challenge.rw_rowvault_k19_texts_of_questions).prog [86]) (H := L2.K19.hk) (ob := L2.K19.ob) (M := 20000) (loose := L2.K19.loose) (d := HandSHeadRun.topDef (OpenLaw.row PySem.Challenge.rw_rowvault_k19_texts_of_questions).prog 86) (kwd := []) L2.K19.ob_eq
    (by kernel_rfl) (fun s => by kernel_rfl) L2.K19.run (by kernel_rfl) (by kernel_rfl) (by kernel_rfl) (by rfl) (by first | assumption | decide +kernel) (by decide +kernel) ⟨rfl, rfl, rfl, rfl, rfl, by decide +kernel⟩ ?hw ?hc
  case hw => w_witness2
  case hc =>
    refine L2.RV.walkTG (l := PySem.Challenge.rw_rowvault_k19_texts_of_questions) (n := 63) (k := 15) (x := "_law_script") (CX := fun _ => L2.CX0) rfl (by decide) (by kernel_rfl) ⟨rfl, by decide, by decide⟩ ?F (fun _ _ _ _ _ z => z)
    intro w mg fa h Y G hmg0
    obtain ⟨K, KX, c⟩ := Y
    have hmg : mg ("law" : PySem.Str) = some (.ref fa) := by
      have e : (HandSHeadRun.topDef (OpenLaw.row PySem.Challenge.rw_rowvault_k19_texts_of_questions).prog 86).name = ("law" : PySem.Str) := by kernel_rfl
      rw [← e]
      exact hmg0
    have nd := of_decide_eq_true (L2.RV.ba2 (L2.RV.ba2 c.look).2).2
    obtain ⟨fd, hb, hF⟩ := L2.K19.facts (P := (PySem.Challenge.rw_rowvault_k19_texts_of_questions).prog) (w := w) KX G hmg c nd
    refine ⟨K, fd, L2.K19.tf.map (He.cT K), L2.K19.spLaw K (L2.K19.TSK K), KX, fun t ht => ?_, fun t ht => ?_, fun t ht => ?_, hb, fun H a ns hl hT hS => ⟨a, ns, rfl, hS, hl, ?_, fun _ => rfl⟩, fun base kb nb tb => hF base kb nb fun p hp => tb _ (List.mem_map_of_mem hp)⟩
    · obtain ⟨p, hp, rfl⟩ := List.mem_map.mp ht
      exact c.empty p hp
    · obtain ⟨p, hp, rfl⟩ := List.mem_map.mp ht
      exact c.out p hp
    · obtain ⟨p, hp, rfl⟩ := List.mem_map.mp ht
      exact PySem.W.codeHd_of_K KX (c.hd p hp)
    · intro p hp
      have z : ∃ d, d ∈ L2.K19.tf ∧ (He.cT K d).2 = p.1 := by
        simp only [L2.K19.TSK, List.mem_cons, List.not_mem_nil, or_false] at hp
        rcases hp with rfl | rfl
        all_goals exact ⟨_, by first | exact .head _ | exact .tail _ (.head _), rfl⟩
      obtain ⟨d, hd, e⟩ := z
      refine LamX.TabS.nil ?_
      rw [← e]
      exact hT _ (List.mem_map_of_mem hd)
