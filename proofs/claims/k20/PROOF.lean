import PyProof.Rows.All
import Wide.All
import OpenK.AllK
import Wide.FinOn
import HandS.ForMost
import HandS.Exc
import HandS.ExcOwn
import HandS.ExcInit
import HandS.ExcIs
import HandS.Defaults
import HandS.Spec
import HandS.Ends
import HandS.HeadEnd
import HandS.ExcField
import HandS.MakeKwOnly
import KE.KStateDown
import HandS.Head0
import HandS.Head1
import HandS.Head2
import HandS.HeadHook1
import HandS.HeadHook2
import HandS.Dict
import HandS.ExcValue
import HandS.Star
import HandS.Lambda
import HandS.HeadHook4
import HandS.HeadHook3
import HandS.List
import HandS.EndBits
import KE.KNestM
import HandS.OwnEq
import HandS.IsInst
import KE.KCallOwn
import KE.KOpsOwn
import HandS.ClsMeth
import HandS.HeadNt
import HandS.Property
import HandS.Text
import HandS.StrMore
import HandS.MakeKw
import HandS.Iter
import HandS.Walk
import KE.GoesMore
import HandS.TupLen
import PyProof.DictTruth
import HandS.DictComp
import HandS.DictEq
import KE.KDictWalk
import HandS.Strs
import HandS.RaiseMore
import HandS.FStr
import HandS.Wide
import HandS.WideBits
import HandS.Style
import PyProof.Rows.RegStrFacts
import HandS.Small
import HandS.Conv
import HandS.IterVal
import KE.KOwnIter
import HandS.WordsDict
import HandS.ForDict
import HandS.More
import PyProof.FactsAll.int_3
import PySem.Challenge.RW_rowvault_k20_books_made_and_asked
set_option Elab.async false
set_option linter.all false
set_option maxRecDepth 100000
set_option maxHeartbeats 4000000
/-! Defs that are only called where no guard of a repr is under way: the promise, the rule by the body, the call. -/
namespace L2.RV
open PySem PySem.Spec PyProof.Rows
structure FnG (P : Program) (w : World) (K : PySem.W.Frag) (mg : Str → Option Value) (base : Heap) (CX : CXT) (k : Nat) (f : Addr) (fd : FuncData) (ps : List Str) (sp : Sp) : Prop where
  many : ∀ vs H Q E, sp vs H Q E → vs.length = ps.length
  go : ∀ (A : Around) (outer : List Env) (s : Shared) (H : Hp) (args : Args) (us : List Value) (vs : List V) (Q : VK) (E : XK), A.guards = some [] → Room k A → Env0 P w K mg base A outer s H →
    BindsTo s fd args (ps.zip us) → Vals vs us → sp vs H Q E → codeAny (model P w) A (.call (.ref f) args) (CR CX outer P w H s Q E) s
section
variable {P : Program} {w : World} {K : PySem.W.Frag} {mg : Str → Option Value} {base : Heap} {CX : CXT} {k : Nat} {f : Addr} {fd : FuncData} {ps : List Str} {sp : Sp}
theorem FnG.of (F : FnOk P w K mg base CX k f fd ps sp) : FnG P w K mg base CX k f fd ps sp :=
  ⟨F.len, fun A o s H args us vs Q E _ hr => F.run A o s H args us vs Q E hr⟩
theorem fnG_of {name qual : Str} {params : Arguments} {body : List Stmt} {scope : Scope} {dV kV doc pm cdv ct oc : Value} {an od : Option Addr} {osl : Array (Option Value)} {N : List Str}
    (lk : K.lookup f = some ⟨oc, od, .func (PySem.W.fnOf name qual params body scope dV kV doc pm an cdv ct), osl⟩) (hc : PySem.W.codeIn K cdv qual = true) (S : FnScope N ps scope)
    (many : ∀ vs H Q E, sp vs H Q E → vs.length = ps.length)
    (hb : ∀ (A : Around) (outer : List Env) (s : Shared) (H : Hp) (vs : List V) (Q : VK) (E : XK), A.guards = some [] → Room k (A.deeper (envOfC qual scope s.heap.objs.size f cdv)) → sp vs H Q E →
      ∃ t, PSs (cxOf CX P w K mg base N qual scope f cdv A outer s H E) body t ∧ t { nx := fun _ H' => Q .non H', rt := Q } (start N vs) H) :
    FnG P w K mg base CX (k + 1) f (PySem.W.fnOf name qual params body scope dV kV doc pm an cdv ct) ps sp := by
  constructor
  · exact many
  intro A outer s H args us vs Q E hg room en bnd rel hsp
  have kept : ∀ b o, base.get? b = some o → s.heap.get? b = some o := fun b o e => (en.bs b o e).1
  have inK : K.In s.heap := en.mod.kin.keeps kept
  have loc : ∀ y ∈ ps.zip us, scope.names.lookup y.1 = some .local ∨ (scope.names.lookup y.1 = some .cell ∧ ((cellsFrom (s.heap.objs.size + 1) scope.names []).lookup y.1).isSome = true) := by
    rintro ⟨n, v⟩ hy
    cases S.par n (List.of_mem_zip hy).1 with
    | inl q => exact Or.inl q
    | inr q => exact Or.inr ⟨q, PySem.W.cellsFrom_some _ _ _ (.inl q)⟩
  apply codeAny_call_function (fd := PySem.W.fnOf name qual params body scope dV kV doc pm an cdv ct) room.depth (inK _ _ lk) rfl S.co S.gen rfl (PySem.W.codeRec_of inK hc)
  apply bnd
  apply wpAny_newFunctionEnv_cells S.kind loc
  intro env he s1 x
  subst he
  refine ⟨(en.mod.nolimit.keeps kept).keeps x.toInCall.keep, ?_⟩
  apply codeAny_func
  obtain ⟨t, ht, hq⟩ := hb A outer s H vs Q E hg (room.deeper _) hsp
  have J : Inv (cxOf CX P w K mg base N qual scope f cdv A outer s H E) [] (start N vs) H s1 := inv_start S room.hd en (many _ _ _ _ hsp) rel x
  refine wpAny_mono (ht.run [] s1 (start N vs) H _ J hq) ?_ fun e s' hs => hs
  intro fl s' hs
  cases fl with
  | ret u =>
    obtain ⟨v, σ', H', J', rv, q⟩ := hs
    exact ⟨v, H', J'.os, J'.bare, J'.base, J'.hok, rv, q⟩
  | next =>
    obtain ⟨σ', H', J', q⟩ := hs
    exact ⟨.non, H', J'.os, J'.bare, J'.base, J'.hok, rfl, q⟩
  | brk =>
    obtain ⟨_, _, _, q⟩ := hs
    exact q.elim
  | cont =>
    obtain ⟨_, _, _, q⟩ := hs
    exact q.elim
end
section
variable {P : Program} {w : World} {K : PySem.W.Frag} {mg : Str → Option Value} {base : Heap} {x qual : Str} {params : Arguments} {body : List Stmt} {scope : Scope} {dvs : List V} {kws : List (Str × V)} {f : Addr} {fd : FuncData}
theorem okG {CX : CXT} {N ps : List Str} {k : Nat} {sp : Sp} (F : FunD K x qual params body scope dvs kws f fd) (S : FnScope N ps scope) (many : ∀ vs H Q E, sp vs H Q E → vs.length = ps.length)
    (hb : ∀ (cdv : Value) (A : Around) (outer : List Env) (s : Shared) (H : Hp) (vs : List V) (Q : VK) (E : XK), A.guards = some [] → Room k (A.deeper (envOfC qual scope s.heap.objs.size f cdv)) → sp vs H Q E →
      ∃ t, PSs (cxOf CX P w K mg base N qual scope f cdv A outer s H E) body t ∧ t { nx := fun _ H' => Q .non H', rt := Q } (start N vs) H) : FnG P w K mg base CX (k + 1) f fd ps sp := by
  obtain ⟨oc, od, dV, kV, doc, pm, an, cdv, ct, osl, rfl, lk, hcd, _, _⟩ := F.ex
  exact fnG_of lk hcd S many fun A outer s H vs Q E hg hr hsp => hb cdv A outer s H vs Q E hg hr hsp
end
section
variable {X : Cx} {CX : CXT} {k : Nat} {f : Addr} {fd : FuncData} {ps : List Str} {sp : Sp} {dvs : List V} {ds : List Value} {E : XK} {x : Str} {p pos : Pos} {e : Expr} {es : List Expr} {t : TA}
/-- a guarded def is called from a body that stands so too -/
theorem goG {pins : List (Addr × Obj)} {σ : St} {H : Hp} {s : Shared} {Q : VK} {us : List Value} {vs : List V} (F : FnG X.prog X.w X.K X.mg X.base CX k f fd ps sp) (hg : X.A.guards = some []) (hr : Room k X.A) (hb : Binds X.K fd ps ds) (hd : Vals dvs ds)
    (hx : Passes CX X E) (I : Inv X pins σ H s) (r : Vals vs us) (h : sp (vs ++ dvs) H Q E) : wpAny (model X.prog X.w) X.A (call (.ref f) us) (EP X pins σ Q) X.xe s := by
  have both : Vals (vs ++ dvs) (us ++ ds) := r.append hd
  have len : (us ++ ds).length = ps.length := both.length.symm.trans (F.many _ _ _ _ h)
  apply wpAny_call
  refine codeAny_mono (F.go X.A X.stack s H ⟨us, []⟩ (us ++ ds) (vs ++ dvs) Q E hg hr I.env0 (hb s us I.kIn len) both h) ?_
  intro r s' hq
  match r, hq with
  | .error e, hq => exact hx pins σ H s e s' I hq
  | .ok (.ret u), hq => exact I.after hq
  | .ok .next, hq => exact hq.elim
  | .ok .brk, hq => exact hq.elim
  | .ok .cont, hq => exact hq.elim
theorem pe_callG (F : FnG X.prog X.w X.K X.mg X.base CX k f fd ps sp) (hgu : X.A.guards = some []) (hr : Room k X.A) (hg : Gl X x) (hm : X.mg x = some (.ref f)) (hk : PySem.W.keepIn X.K (.ref f) = true) (hb : Binds X.K fd ps ds) (hd : Vals dvs ds) (hx : Passes CX X E)
    (ha : PA X (e :: es) t) (hdb : (x == ("__debug__" : Str)) = false := by decide) (he : starEach (e :: es) X.env = (false, eval e X.env) :: starEach es X.env := by rfl) (hpl : (backTo pos (starEach es X.env)).any (·.1) = false := by rfl) :
    PE X (.Call (.Name x p) (e :: es) [] pos) (tCall sp dvs E t) := by
  constructor
  intro pins s σ H Q I h
  apply wpAny_Call_Name_kw
  refine ld_glob I hg hm ?_ hdb
  refine PySem.W.callWith_K (h₀ := X.base) I.ok.mod.kin hk ?_ he hpl
  refine thn (ha.run pos pins s σ H _ I h) ?_
  rintro us s1 ⟨vs, H1, I1, r, q⟩
  exact ⟨I1.kIn, goG F hgu hr hb hd hx I1 r q⟩
end
end L2.RV
set_option Elab.async false
set_option linter.all false
set_option maxRecDepth 100000
set_option maxHeartbeats 4000000
/-! The end of a law's proof where its def is guarded. -/
namespace L2.RV
open PySem PySem.Spec PyProof.Rows
abbrev listObj (vs : List Value) : Obj := { cls := .type "list", data := .seq vs.toArray }
theorem lawG {P : Program} {w : World} {K : PySem.W.Frag} {mg mb : Str → Option Value} {CX : CXT} {k : Nat} {fa a : Addr} {fd : FuncData} {x : Str} {sp : Sp} {s : Shared} {vs : List Value} {ns : List Int}
    (KX : K.In s.heap) (G : s.heap.Ns mainGlobals mg) (B : s.heap.Ns builtinsNs mb) (hB : ∀ x : Str, x ≠ "__name__" → mb x = bootBuiltins x) (lim : s.heap.NoLimit) (gens : s.gens = #[])
    (at_ : s.heap.get? a = some (listObj vs)) (areI : IntsAre vs ns) (few : ns.length ≤ sizeLine) (room : Room k callerA)
    (F : ∀ base : Heap, K.In base → base.Ns mainGlobals mg → FnG P w K mg base CX k fa fd [x] sp) (bind : ∀ (s : Shared) (u : Value), BindsTo s fd ⟨[u], []⟩ [(x, u)])
    (hsp : ∀ H : Hp, SqL K H a (ns.map V.int) → sp [.ref a] H (fun v _ => v = .bl true) fun _ _ _ => False)
    (no : ∀ H e s', CX [] H s (fun _ _ _ => False) e s' → False) :
    codeAny (model P w) callerA (.call (.ref fa) ⟨[.ref a], []⟩) (fun r s' => r = .ok (.ret (.bool true)) ∧ OldK s.heap s'.heap ∧ s'.os = s.os ∧ AllBare s'.gens) s := by
  have vals : Vals (ns.map V.int) vs := vals_ints areI
  have short : (ns.map V.int).length ≤ sizeLine := by rw [List.length_map]; exact few
  have size : vs.toArray.size ≤ sizeLine := by rw [List.size_toArray, areI.length]; exact few
  have main : ∀ H : Hp, (∀ b u, H b = some u → b = a ∧ u = .frz (listObj vs) (.lst (ns.map V.int)) ∧ K.lookup a = none) → SqL K H a (ns.map V.int) →
      codeAny (model P w) callerA (.call (.ref fa) ⟨[.ref a], []⟩) (fun r s' => r = .ok (.ret (.bool true)) ∧ OldK s.heap s'.heap ∧ s'.os = s.os ∧ AllBare s'.gens) s := by
    intro H only seq
    have stands : HOk P w H s.heap := by
      intro b u e
      obtain ⟨rfl, rfl, _⟩ := only b u e
      exact ⟨at_, short, vs, _, vals, at_⟩
    have hidden : ∀ {b : Addr} {o : Obj}, s.heap.get? b = some o → (∀ u, H b = some u → False) → (hidT s.heap H).get? b = some o := by
      intro b o e n
      apply hidT_get e
      cases q : H b with
      | none => rfl
      | some u => exact (n u q).elim
    have spaces : ∀ {b : Addr} {m : Str → Option Value}, s.heap.Ns b m → (hidT s.heap H).Ns b m := by
      rintro b m ⟨o, es, ep, e, d, more⟩
      refine ⟨o, es, ep, hidden e fun u q => ?_, d, more⟩
      obtain ⟨rfl, _, _⟩ := only b u q
      rw [at_] at e
      cases e
      have d' : Data.seq vs.toArray _ = Data.dict es ep := d
      cases d'
    have inK : K.In (hidT s.heap H) := by
      intro b o e
      refine hidden (KX b o e) fun u q => ?_
      obtain ⟨rfl, _, z⟩ := only b u q
      rw [z] at e
      cases e
    have entry : Env0 P w K mg (hidT s.heap H) callerA [] s H := by
      refine ⟨rfl, ⟨inK, spaces G, ⟨mb, spaces B, hB⟩, ?_⟩, fun b o e => of_hidT e, Nat.le_of_eq (hidT_size _ _), trivial, fun b hb => ?_, stands, .of_eq gens⟩
      · obtain ⟨mc, h1, h2⟩ := lim
        exact ⟨mc, spaces h1, h2⟩
      · exact absurd (show b ∈ ([] : List Addr) from hb) (by simp)
    refine codeAny_mono ((F _ inK (spaces G)).go callerA [] s H ⟨[.ref a], []⟩ [.ref a] [.ref a] _ _ rfl room entry (bind s (.ref a)) (.cons rfl .nil) (hsp H seq)) ?_
    intro r s' h
    match r, h with
    | .error e, h => exact (no H e s' h).elim
    | .ok .next, h => exact h.elim
    | .ok .brk, h => exact h.elim
    | .ok .cont, h => exact h.elim
    | .ok (.ret u), h =>
      obtain ⟨v, H', os, bare, un, stands', rel, q⟩ := h
      have q' : v = .bl true := q
      subst q'
      obtain rfl : u = Value.bool true := rel
      refine ⟨rfl, OldK.of_keep fun b o e => ?_, os, bare⟩
      cases q : H b with
      | none => exact un.keep b o e q (fun z => absurd (show b ∈ ([] : List Addr) from z) (by simp)) (by simp)
      | some u =>
        obtain ⟨rfl, rfl, _⟩ := only b u q
        obtain ⟨e2, _⟩ := stands' b _ (un.frzs b _ _ q)
        rw [at_] at e
        cases e
        exact e2
  cases old : K.lookup a with
  | some o =>
    have e := KX a o old
    rw [at_] at e
    cases e
    refine main (fun _ => none) (fun b u z => ?_) (.inr ⟨_, vs.toArray, _, old, rfl, rfl, rfl, size, by simpa using vals⟩)
    have z' : (none : Option HO) = some u := z
    cases z'
  | none =>
    refine main (fun b => if b = a then some (.frz (listObj vs) (.lst (ns.map V.int))) else none) (fun b u z => ?_) (.inl (.inr ⟨listObj vs, if_pos rfl⟩))
    by_cases hb : b = a
    · have z' := (if_pos hb).symm.trans z
      cases z'
      exact ⟨hb, rfl, old⟩
    · have z' := (if_neg hb).symm.trans z
      cases z'
theorem walkG {l : PySem.W.OpenLaw} {n k : Nat} {q : Program} {loose : List Str} {XP : (Str → Option Value) → Heap → Prop} {YP : World → Heap → Prop} {d : DefRec} {CX : CXT} {x : Str}
    (hn : l.most = some n) (hn2 : n ≤ sizeLine) (hdf : d.params.defaults = []) (hr : Room k callerA)
    (F : ∀ (w : World) (mg : Str → Option Value) (fa : Addr) (h : Heap), YP w h → h.Ns mainGlobals mg → mg d.name = some (.ref fa) →
      ∃ (K : PySem.W.Frag) (fd : FuncData) (sp : Sp), K.In h ∧ (∀ (s : Shared) (u : Value), BindsTo s fd ⟨[u], []⟩ [(x, u)]) ∧
        (∀ (H : Hp) (a : Addr) (ns : List Int), ns.length ≤ n → SqL K H a (ns.map V.int) → sp [.ref a] H (fun v _ => v = .bl true) fun _ _ _ => False) ∧
        ∀ base : Heap, K.In base → base.Ns mainGlobals mg → FnG l.prog w K mg base CX k fa fd [x] sp)
    (no : ∀ (H : Hp) (s : Shared) (e : Value) (s' : Shared), CX [] H s (fun _ _ _ => False) e s' → False) :
    PySem.W.WalkO q loose XP YP l.row.toRowW d [] (fun f vs => PySem.call f vs) := by
  apply Att.attach_call hn hdf
  intro w s₀ s₁ mg mb fa o pm cd doc a vs ns G Y ho hd hcd hmg hobj hints hlen hg
  obtain ⟨K, fd, sp, KX, hb, hs, hF⟩ := F w mg fa _ Y G.T.g hmg
  exact lawG KX G.T.g G.T.b G.T.builtins G.T.nolimit hg hobj hints (Nat.le_trans hlen hn2) hr hF hb (fun H hS => hs H a ns hlen hS) fun H e s' => no H s₁ e s'
end L2.RV
set_option Elab.async false
set_option linter.all false
set_option maxRecDepth 100000
set_option maxHeartbeats 4000000
/-! An own exception class over ValueError called with keywords: at the library's level. -/
namespace PySem
namespace RVX
open PySem.HandSPX PySem.W PySem.Calls PyProof.Rows
section
variable {prog : Program} {w : World} {M : Model} {A : Around} {E : Value → Shared → Prop} {R : Result → Shared → Prop} {h : Heap} {g : Array GenState} {d : Drawn} {t : Nat} {os : OsState}
variable {nm q : Str} {C N : Addr} {bs bm bmB : List Value} {hdct : Bool} {sn : List Str} {sub : List Value} {ab : Bool} {col : Option Bool} {dd : Option Addr} {k0 k1 k2 k3 k5 : Option Value} {B newId initId : String}
  {us : List Value} {kw : List (Str × Value)}
theorem kwNewLook (F : ExcBaseFacts B newId initId bmB) (hT : ∀ X : String, bm.contains (.type X) = bmB.contains (.type X)) {Q : Unit → Shared → Prop}
    (hC : h.get? C = some (excClassObj nm q C N bs bm hdct sn sub ab col dd k0 k1 k2 k3 k5 newId)) (hq : Q () ⟨h, g, d, t, os⟩) : wpAny M A (checkBuiltinCall newId ⟨.ref C :: us, kw⟩) Q E ⟨h, g, d, t, os⟩ := by
  have hB : (Value.ref C :: bm).contains (.type B) = true := by rw [List.contains_cons, hT, F.hasB, Bool.or_true]
  have st := F.noStar
  simp only [checkBuiltinCall, F.newKind, F.newSplit, F.newRow]
  repeat (first
    | refine wpAny_loadPart_at hC ?_
    | (refine wpAny_isSubtype_exc hC ?_; rw [hB])
    | refine wpAny_staticBase_exc hC ?_
    | refine wpAny_madeBy_exc hC ?_
    | simp only [bne_self_eq_false, Bool.false_eq_true, if_false]
    | wp_step)
  exact hq
theorem kwTypeLook {Q : Unit → Shared → Prop} (hC : h.get? C = some (excClassObj nm q C N bs bm hdct sn sub ab col dd k0 k1 k2 k3 k5 newId)) (hq : Q () ⟨h, g, d, t, os⟩) :
    wpAny M A (checkBuiltinCall "type.__call__" ⟨.ref C :: us, kw⟩) Q E ⟨h, g, d, t, os⟩ := by
  have s := tc_sub
  have ty : (⟨h, g, d, t, os⟩ : Shared).TypeIs (.ref C) "type" := ⟨_, hC, rfl⟩
  simp only [checkBuiltinCall, tc_kind, tc_split]
  repeat (any_goals (first
    | assumption
    | with_reducible refine wpAny_loadPart_at hC ?_
    | with_reducible refine wpAny_onRaise ?_
    | with_reducible refine wpAny_map ?_
    | wp_step))
theorem kwNew (F : ExcBaseFacts B newId initId bmB) (hT : ∀ X : String, bm.contains (.type X) = bmB.contains (.type X)) (hC : h.get? C = some (excClassObj nm q C N bs bm hdct sn sub ab col dd k0 k1 k2 k3 k5 newId)) (few : us.length ≤ sizeLine)
    (hq : R (.ok (.ret (.ref (h.objs.size + 1)))) ⟨(h.push (W.kdv_tup us)).push (excO C h.objs.size), g, d, t, os⟩) : codeAny (model prog w) A (.builtin newId ⟨.ref C :: us, kw⟩) R ⟨h, g, d, t, os⟩ := by
  have ends := F.ends
  have inB : (Value.ref C :: bm).contains (.type B) = true := by rw [List.contains_cons, hT, F.hasB, Bool.or_true]
  have inA : (Value.ref C :: bm).contains (.type "AttributeError") = false := by rw [List.contains_cons, hT, F.noAttr]; rfl
  have inN : (Value.ref C :: bm).contains (.type "NameError") = false := by rw [List.contains_cons, hT, F.noName]; rfl
  apply codeAny_builtinAt F.entry
  unfold Builtin.«BaseException.__new__»
  apply wpAt_bind
  show wpAt _ _ _ (stack >>= _) _ _ _
  apply wpAt_bind
  apply wpAt_stack
  intro p below
  apply wpAt_of_wpAny
  wp_walk
  apply wpAt_of_wpAny
  rw [F.owner]
  repeat (first
    | with_reducible refine wpAny_madeHere_exc F.canon hC ?_
    | with_reducible refine wpAny_loadPart_at hC ?_
    | (with_reducible refine wpAny_isSubtype_exc hC ?_; first | rw [inB] | rw [inA] | rw [inN])
    | wp_step)
  show R _ _
  rw [Heap.size_push]
  exact hq
theorem kwTypeCall (F : ExcBaseFacts B newId initId bmB) (hT : ∀ X : String, bm.contains (.type X) = bmB.contains (.type X)) {fI : Addr} {Q : Fin → Shared → Prop} (hC : h.get? C = some (excClassObj nm q C N bs bm hdct sn sub ab col dd k0 k1 k2 k3 k5 newId))
    (hi : W.Looks (model prog w) h (typeLookup (.ref C) "__init__") (some (.ref fI))) (hb : ∀ self, W.Looks (model prog w) h (bindSpecial (.ref fI) self) (.ref fI, [self])) (few : us.length ≤ sizeLine)
    (hq : codeAny (model prog w) A (.call (.ref fI) ⟨.ref (h.objs.size + 1) :: us, kw⟩)
      (fun r s' => match r with | .ok (.ret v) => v = .none ∧ Q (.done (.ret (.ref (h.objs.size + 1)))) s' | .ok _ => False | .error e => E e s') ⟨(h.push (W.kdv_tup us)).push (excO C h.objs.size), g, d, t, os⟩) :
    wpAny (model prog w) A (Builtin.«type.__call__» ⟨.ref C :: us, kw⟩) Q E ⟨h, g, d, t, os⟩ := by
  repeat (first
    | with_reducible refine wpAny_loadPart_at hC ?_
    | with_reducible refine wpAny_madeBy_exc hC ?_
    | wp_step)
  apply codeAny_call_builtin_code (Code.quiet_builtin _ F.quiet)
  apply kwNewLook F hT hC
  apply kwNew F hT hC few
  show wpAny _ _ _ _ _ _
  have keep : ∀ b o, h.get? b = some o → ((h.push (W.kdv_tup us)).push (excO C h.objs.size)).get? b = some o := fun b o e => Heap.get?_push_of_some _ (Heap.get?_push_of_some _ e)
  have hC1 := keep _ _ hC
  have made : ((h.push (W.kdv_tup us)).push (excO C h.objs.size)).get? (h.objs.size + 1) = some (excO C h.objs.size) := by heap_get
  have own : (Value.ref C :: bm).contains (.ref C) = true := by simp
  have i1 := hi.keeps keep
  have b1 := (hb (.ref (h.objs.size + 1))).keeps keep
  unfold isInstance
  repeat (first
    | with_reducible refine wpAny_loadPart_at made ?_
    | (with_reducible refine wpAny_isSubtype_exc hC1 ?_; rw [own])
    | wp_step)
  show wpAny _ _ (typeLookup (.ref C) _) _ _ _
  apply i1.at
  apply wpAny_holding
  apply wpAny_bind
  apply b1.at
  apply wpAny_bind
  apply wpAny_call
  refine codeAny_mono hq ?_
  intro r s' z
  rcases r with e | (v | _ | _ | _) <;> first | exact z | exact z.elim | skip
  obtain ⟨rfl, z⟩ := z
  first
    | exact wpAny_pure (wpAny_pure z)
    | (wp_walk; exact z)
theorem kwCall (F : ExcBaseFacts B newId initId bmB) (hT : ∀ X : String, bm.contains (.type X) = bmB.contains (.type X)) {fI : Addr} (hC : h.get? C = some (excClassObj nm q C N bs bm hdct sn sub ab col dd k0 k1 k2 k3 k5 newId))
    (hi : W.Looks (model prog w) h (typeLookup (.ref C) "__init__") (some (.ref fI))) (hb : ∀ self, W.Looks (model prog w) h (bindSpecial (.ref fI) self) (.ref fI, [self])) (few : us.length ≤ sizeLine)
    (hq : codeAny (model prog w) (A.under (.builtin "type.__call__" ⟨.ref C :: us, kw⟩)) (.call (.ref fI) ⟨.ref (h.objs.size + 1) :: us, kw⟩) (W.InitBack (h.objs.size + 1) R) ⟨(h.push (W.kdv_tup us)).push (excO C h.objs.size), g, d, t, os⟩) :
    codeAny (model prog w) A (.call (.ref C) ⟨us, kw⟩) R ⟨h, g, d, t, os⟩ := by
  have l1 := tc_lookup
  have l2 := tc_bind (.ref C)
  have ty : (⟨h, g, d, t, os⟩ : Shared).TypeIs (.ref C) "type" := ⟨_, hC, rfl⟩
  apply codeAny_of_tree
  show wpAny _ _ (callAny (.ref C) _) _ _ _
  repeat (any_goals (first
    | assumption
    | with_reducible refine wpAny_loadPart_at hC ?_
    | wp_step))
  refine ⟨rfl, ?_⟩
  apply codeAny_call_builtin_at (Code.quiet_builtin _ (by decide +kernel)) entry_typeCall
  apply kwTypeLook hC
  apply kwTypeCall F hT hC hi hb few
  refine codeAny_mono hq ?_
  intro r s' z
  rcases r with e | (v | _ | _ | _) <;> exact z
end
end RVX
end PySem
set_option Elab.async false
set_option linter.all false
set_option maxRecDepth 100000
set_option maxHeartbeats 4000000
/-! Own exceptions as values: what the class must say, isinstance of one. -/
namespace PySem.W
open PySem PySem.Spec PySem.Calls PyProof.Rows
section
variable {prog : Program} {w : World} {A : Around} {E : Value → Shared → Prop} {s : Shared} {K : Frag} {x D : Addr} {ox : Obj} {od : Option Obj}
theorem rvClass {Q : Option Value → Shared → Prop} (ga : findIn K (.ref D) "__getattribute__" = some (some (.builtin "BaseException.__getattribute__"))) (gg : findIn K (.ref D) "__getattr__" = some none) (sb : subIn K (.ref D) (.type "BaseException") = some true)
    (hd : hasDictIn K D = true) (ca : findIn K (.ref D) "__class__" = some (some (.builtin "object.__class__")))
    (cg : specialIn K (.builtin "object.__class__") "__get__" = some (some (.builtin "getset_descriptor.__get__"))) (ct : takesIn K (.builtin "object.__class__") = some true) (mo : mroIn K D (.type "object") = some true)
    (X : K.In s.heap) (I : InstAt s.heap x ox D od) (h : Q (some (.ref D)) { s with toks := s.toks + 1 }) : wpAny (model prog w) A (getAttr? (.ref x) "__class__") Q E s := by
  have fd : findObj K D od "__class__" = some (.bind (.builtin "getset_descriptor.__get__") (.builtin "object.__class__")) := by
    obtain ⟨cd, hc, _⟩ := any_some hd
    unfold findObj
    rw [hc, Option.bind_some, ca, Option.bind_some]
    simp [cg, ct]
  obtain ⟨hp, g, d, t, os⟩ := s
  have ty := I.type (M := model prog w)
  have la := looks_findIn (M := model prog w) X ga
  have lg := looks_findIn (M := model prog w) X gg
  have lf := looks_find (M := model prog w) X I fd
  have sub : Looks (model prog w) hp (isInstance (.ref x) (.type "BaseException")) true := ty.andThen (looks_subIn X sb)
  have n0 : (false && onTheHeap (Value.builtin "BaseException.__getattribute__")) = false := rfl
  have n2 : (Value.builtin "BaseException.__getattribute__" == Value.builtin "object.__getattribute__") = false := by decide +kernel
  have n1 : (onTheHeap (Value.ref D) && Value.builtin "BaseException.__getattribute__" == Value.builtin "object.__getattribute__") = false := by rw [n2]; rfl
  unfold getAttr? getAttrBy? getAttrBy
  apply wpAny_bind
  apply wpAny_mkText
  apply wpAny_bind
  apply wpAny_attempt
  apply wpAny_holding
  apply wpAny_bind
  apply ty.at
  apply wpAny_bind
  apply la.at
  show wpAny _ _ (if (onTheHeap (Value.ref D) && Value.builtin "BaseException.__getattribute__" == Value.builtin "object.__getattribute__") = true then _ else _) _ _ _
  rw [n1, if_neg Bool.false_ne_true]
  unfold getAttrByItsOwn hookBefore
  apply wpAny_bind
  rw [if_pos (show onTheHeap (Value.ref D) = true from rfl)]
  apply lg.at
  apply wpAny_bind
  apply wpAny_attempt
  apply wpAny_holding
  unfold callGetattribute
  rw [n0, if_neg Bool.false_ne_true]
  unfold boundAndCalled
  rw [PySem.F.excAttr_ValueError.ga.bind (.ref x)]
  apply wpAny_bind
  apply wpAny_pure
  show wpAny _ _ (call (.builtin "BaseException.__getattribute__") [.ref x, .str "__class__" t]) _ _ _
  refine wpAny_call (codeAny_call_builtin PySem.F.excAttr_ValueError.ga.plain PySem.F.entry_bexc_ga ?_)
  refine @check_slot (model prog w) _ _ ⟨hp, g, d, t + 1, os⟩ "BaseException.__getattribute__" "BaseException" "__getattribute__" (.ref x) [.str "__class__" t] [] _ (by decide +kernel) (by decide +kernel) sub (PySem.F.args_bexc_ga (.ref x) (.str "__class__" t)) ?_
  unfold Builtin.«object.__getattribute__»
  refine wpAny_bind (wpAny_of_eq (a := ((Value.ref x : Value), [Value.str "__class__" t])) (by first | rfl | (simp only [slotArgs]; rfl)) ?_)
  apply wpAny_bind
  apply wpAny_pure
  apply wpAny_bind
  apply ty.at
  apply wpAny_bind
  apply lf.at
  show wpAny _ _ (holding [Value.builtin "object.__class__"] (call (.builtin "getset_descriptor.__get__") [.builtin "object.__class__", .ref x, .ref D]) >>= ret) _ _ _
  refine wpAny_bind (wpAny_holding (wpAny_call (class_get (s := ⟨hp, g, d, t + 1, os⟩) (ox := ox) (od := od) X I mo ?_)))
  apply wpAny_pure
  show wpAny _ _ (handedOut (.ref D)) _ _ _
  rw [handedOut_of (v := .ref D) rfl]
  first
    | exact wpAny_pure (wpAny_pure h)
    | exact wpAny_pure h
    | exact wpAny_pure (wpAny_bind (wpAny_pure (wpAny_pure h)))
end
end PySem.W
namespace L2.RV
open PySem PySem.Spec PyProof.Rows
theorem kitE {K : PySem.W.Frag} {x D : Addr} {ox : Obj} {od : Option Obj} (c : ExcC K D) : PySem.W.KitX K (.ref x) (.ref D) (fun h => PySem.W.InstAt h x ox D od) := by
  have isC : ∃ cd, PySem.W.clsIn K D = some cd := by
    obtain ⟨cd, hc, _⟩ := PySem.W.any_some c.hd
    exact ⟨cd, hc⟩
  refine ⟨fun _ _ _ I => I.type, fun M h X I => ?_, fun h tp dd its n sl X at_ => ?_, fun X I k => PySem.W.rvClass c.hg c.hk c.hs c.hd c.ha c.hn c.ht c.hm X I k⟩
  · obtain ⟨cd, hc⟩ := isC
    unfold PySem.W.clsIn at hc
    split at hc
    · rename_i ho
      intro A' Q' E' s' k q
      unfold isType loadHead
      exact wpAny_bind (wpAny_loadPart (k _ _ (X _ _ ho)) (wpAny_pure q))
    · cases hc
  · apply Bool.eq_false_iff.mpr
    intro q
    obtain rfl : D = tp := Value.ref.inj (beq_iff_eq.mp q)
    obtain ⟨cd, hc⟩ := isC
    unfold PySem.W.clsIn at hc
    split at hc
    · rename_i ho
      have z := (X _ _ ho).symm.trans at_
      cases z
    · cases hc
/-- an exception that is not raised stands at e: its class C, its fields fs (none: it has no dict) -/
def ErrAt (H : Hp) (e C : Addr) (fs : List (Str × V)) : Prop := (fs = [] ∧ H e = some (exo e C none)) ∨ ∃ d, H e = some (exo e C (some d)) ∧ H d = some (exd d fs)
theorem ErrAt.same {H H' : Hp} {e C : Addr} {fs : List (Str × V)} (x : ErrAt H e C fs) (s : Same H H') : ErrAt H' e C fs := by
  rcases x with ⟨n, x⟩ | ⟨d, x, y⟩
  · exact .inl ⟨n, s _ _ x⟩
  · exact .inr ⟨d, s _ _ x, s _ _ y⟩
section
variable {X : Cx} {pins : List (Addr × Obj)} {σ : L2.St} {H : Hp} {s : Shared} {e C : Addr} {fs : List (Str × V)}
theorem ErrAt.inst (x : ErrAt H e C fs) (I : Inv X pins σ H s) : ∃ ox od, PySem.W.InstAt s.heap e ox C od ∧ ∀ f, (od = none ∧ fs.lookup f = none) ∨ ∃ o r, od = some o ∧ PySem.W.lookIn f o = some r ∧ RelO (fs.lookup f) r := by
  rcases x with ⟨rfl, x⟩ | ⟨d, x, y⟩
  · obtain ⟨t1, ho⟩ := exo_at I.hok x
    exact ⟨_, none, ⟨ho, rfl, rfl, trivial⟩, fun f => .inl ⟨rfl, rfl⟩⟩
  · obtain ⟨t1, ho⟩ := exo_at I.hok x
    obtain ⟨mA, hns, rel⟩ := exd_at I.hok y
    have hns1 : s.heap.Ns1 d mA := hns
    obtain ⟨o, hd, hl⟩ := lookIn_ns hns1
    exact ⟨_, some o, ⟨ho, rfl, rfl, hd⟩, fun f => .inr ⟨o, _, rfl, hl f, rel f⟩⟩
end
/-- isinstance(e, c) of such an exception -/
def rIsX (K : PySem.W.Frag) : List V → Hp → VK → Prop := fun xs H Q => ∃ (e C : Addr) (fs : List (Str × V)) (c : V) (cv : Value) (b : Bool), xs = [.ref e, c] ∧ ErrAt H e C fs ∧ ExcC K C ∧ (∀ u, RelV c u → u = cv) ∧ PySem.W.kitOne K (.ref C) cv = some b ∧ Q (.bl b) H
theorem call_isX {X : Cx} : CallR X (.builtin "isinstance") (rIsX X.K) := by
  intro pins s σ H xs us Q I r h
  obtain ⟨e, C, fs, c, cv, b, rfl, at_, cl, hcv, k, q⟩ := h
  obtain ⟨u, u', rfl, ru, ru'⟩ := vals2 r
  cases ru
  obtain rfl := hcv _ ru'
  obtain ⟨ox, od, J, _⟩ := at_.inst I
  exact PySem.W.kia_one (kitE cl) I.kIn J k (fun z => nomatch z) fun tk => ⟨.bl b, H, I.kept (t' := tk) fun _ _ z => z, rfl, q⟩
/-- e.f of such an exception -/
def tXF (K : PySem.W.Frag) (f : Str) (te : TE) : TE := fun σ H Q => te σ H fun x H1 => ∃ (e C : Addr) (fs : List (Str × V)) (v : V), x = .ref e ∧ ErrAt H1 e C fs ∧ XfC K C ∧ PySem.W.findIn K (.ref C) f = some none ∧ fs.lookup f = some v ∧ Q v H1
theorem pe_xF {X : Cx} {e : Expr} {te : TE} {pos : Pos} {f : Str} (he : PE X e te) (hb : attributeBase e f X.env (eval e X.env) = eval e X.env := by rfl) : PE X (.Attribute e f pos) (tXF X.K f te) := by
  constructor
  intro pins s σ H Q I h
  apply attr_of hb
  refine thn (he.run pins s σ H _ I h) ?_
  rintro u s1 ⟨x, H1, I1, rx, e1, C, fs, v, rfl, at_, T, no, l, q⟩
  cases rx
  obtain ⟨ox, od, J, look⟩ := at_.inst I1
  rcases look f with ⟨_, z⟩ | ⟨o, r, rfl, hl, rel⟩
  · rw [l] at z
    cases z
  · obtain ⟨u, hu, ru⟩ := RelO.some_of (v := v) (o := r) (by rw [← l]; exact rel)
    exact HandSPX.exc_get I1.kIn J T.ga T.gg T.exC (PySem.W.findObj_own T.hdC no rfl (by rw [hl, hu])) (handed_of ru) ⟨v, H1, I1.tok _, ru, q⟩
end L2.RV
set_option Elab.async false
set_option linter.all false
set_option maxRecDepth 100000
set_option maxHeartbeats 4000000
/-! Own exceptions as values: they are made, by position and by name. -/
namespace L2.RV
open PySem PySem.Spec PyProof.Rows
/-- the promise of an __init__ that stores its parameters ff as fields of these names -/
def spErr (K : PySem.W.Frag) (ff : List Str) : Sp := fun vs H Q _ => ∃ (a C : Addr) (ws : List V), vs = .ref a :: ws ∧ ws.length = ff.length ∧ OexC K C ∧ (∀ f ∈ ff, PySem.W.findIn K (.ref C) f = some none) ∧ H a = some (exo a C none) ∧
  ∀ (H' : Hp) (fs : List (Str × V)), (∀ b o, b ≠ a → H b = some o → H' b = some o) → ErrAt H' a C fs → (∀ f v, (ff.zip ws).lookup f = some v → fs.lookup f = some v) → Q .non H'
/-- what is asked of the class and its __init__ -/
structure MkX (P : Program) (w : World) (K : PySem.W.Frag) (mg : Str → Option Value) (base : Heap) (k : Nat) (x : Str) (C fI : Addr) (fd : FuncData) (ff : List Str) : Prop where
  gC : mg x = some (.ref C)
  o : OexC K C
  no : ∀ f ∈ ff, PySem.W.findIn K (.ref C) f = some none
  iC : PySem.W.findIn K (.ref C) "__init__" = some (some (.ref fI))
  tI : PySem.W.typeIn K (.ref fI) = some (.type "function")
  F : FnOk P w K mg base CX0 k fI fd (("self" : Str) :: ff) (spErr K ff)
section
variable {X : Cx} {k : Nat} {fI C : Addr} {fd : FuncData} {ff ks : List Str} {x : Str}
/-- the call of the class: us by position, ws by the names ks; bound, they are as, the fields' values ts -/
theorem run_mkX {pins : List (Addr × Obj)} {σ : L2.St} {H : Hp} {s : Shared} {Q : VK} {us ws as : List Value} {ts : List V} (M : MkX X.prog X.w X.K X.mg X.base k x C fI fd ff) (hr : Room (k + 1) X.A)
    (to : ∀ (s : Shared) (u : Value), X.K.In s.heap → BindsTo s fd ⟨u :: us, ks.zip ws⟩ ((("self" : Str) :: ff).zip (u :: as))) (I : Inv X pins σ H s) (rt : Vals ts as) (l : ts.length = ff.length) (few : us.length ≤ 1000)
    (h : ∀ (a : Addr) (H3 : Hp) (fs : List (Str × V)), H a = none → Same H H3 → ErrAt H3 a C fs → (∀ f v, (ff.zip ts).lookup f = some v → fs.lookup f = some v) → Q (.ref a) H3) :
    wpAny (model X.prog X.w) X.A (call (.ref C) us (ks.zip ws)) (EP X pins σ Q) X.xe s := by
  obtain ⟨nm, q, N, bs, bm, sn, sub, ab, col, dd, k0, k1, k2, k3, k5, hC, hbm⟩ := M.o.cls
  obtain ⟨hp, gs, dr, tk, os⟩ := s
  have few2 : us.length ≤ sizeLine := by rw [sizeLine_eq]; omega
  have up : hp.objs.size ≤ hp.objs.size + 1 := Nat.le_succ _
  have fresh : H (hp.objs.size + 1) = none := I.hok.fresh up
  have keep : ∀ b o, hp.get? b = some o → ((hp.push (PySem.W.kdv_tup us)).push (PySem.HandSPX.excO C hp.objs.size)).get? b = some o := fun b o e => Heap.get?_push_of_some _ (Heap.get?_push_of_some _ e)
  have made : ((hp.push (PySem.W.kdv_tup us)).push (PySem.HandSPX.excO C hp.objs.size)).get? (hp.objs.size + 1) = some (PySem.HandSPX.excO C hp.objs.size) := by heap_get
  have J : Inv X pins σ (upd H (hp.objs.size + 1) (exo (hp.objs.size + 1) C none)) ⟨(hp.push (PySem.W.kdv_tup us)).push (PySem.HandSPX.excO C hp.objs.size), gs, dr, tk, os⟩ :=
    I.laid (t' := tk) (a := hp.objs.size + 1) (o := exo (hp.objs.size + 1) C none) (h' := (hp.push (PySem.W.kdv_tup us)).push (PySem.HandSPX.excO C hp.objs.size)) keep up (exo_ok made)
  have both : Vals (V.ref (hp.objs.size + 1) :: ts) (Value.ref (hp.objs.size + 1) :: as) := .cons rfl rt
  have asked : spErr X.K ff (V.ref (hp.objs.size + 1) :: ts) (upd H (hp.objs.size + 1) (exo (hp.objs.size + 1) C none)) (fun v H2 => v = .non ∧ Q (.ref (hp.objs.size + 1)) H2) E0 := by
    refine ⟨_, C, _, rfl, l, M.o, M.no, upd_same, fun H' fs sm at_ look => ⟨rfl, h _ H' fs fresh (fun b o z => ?_) at_ look⟩⟩
    have nb : b ≠ hp.objs.size + 1 := ne_of_none z fresh
    exact sm b o nb (by rw [upd_ne nb]; exact z)
  apply wpAny_call
  refine PySem.RVX.kwCall F.excBase_ValueError (fun Y => PySem.HandSPX.refsVE_contains Y bm hbm) (I.kIn _ _ hC) (PySem.W.looks_findIn I.kIn M.iC) (fun self => PySem.W.bind_fn I.kIn self M.tI) few2 ?_
  refine codeAny_mono (M.F.run _ X.stack _ _ ⟨Value.ref (hp.objs.size + 1) :: us, ks.zip ws⟩ (Value.ref (hp.objs.size + 1) :: as) _ _ E0 (hr.make C us (ks.zip ws)) (J.env0.make C us (ks.zip ws)) (to _ _ J.kIn) both asked) ?_
  intro r' s' hq
  match r', hq with
  | .error er, hq => exact hq.elim
  | .ok .next, hq => exact hq.elim
  | .ok .brk, hq => exact hq.elim
  | .ok .cont, hq => exact hq.elim
  | .ok (.ret u), hq =>
    obtain ⟨v, H2, J2, rv, ev, q2⟩ := J.after hq
    subst ev
    exact ⟨rv, ⟨V.ref (hp.objs.size + 1), H2, J2, rfl, q2⟩⟩
end
/-! ### the __init__ of one and of two fields -/
def args1 (f : Str) (p1 p2 : Pos) : Arguments := { posonlyargs := [], args := [{ arg := "self", annotation := none, pos := p1 }, { arg := f, annotation := none, pos := p2 }], vararg := none, kwonlyargs := [], kw_defaults := [], kwarg := none, defaults := [] }
def body1 (f : Str) (q1 q2 q3 q4 : Pos) : List Stmt := [.Assign [.Attribute (.Name "self" q1) f q2] (.Name f q3) q4]
def scope1 (f : Str) : Scope := { kind := .function, names := [("self", .local), (f, .local)], isGenerator := false, isCoroutine := false, more := [] }
def args2 (f g : Str) (p1 p2 p3 : Pos) : Arguments := { posonlyargs := [], args := [{ arg := "self", annotation := none, pos := p1 }, { arg := f, annotation := none, pos := p2 }, { arg := g, annotation := none, pos := p3 }], vararg := none, kwonlyargs := [], kw_defaults := [], kwarg := none, defaults := [] }
def body2 (f g : Str) (q1 q2 q3 q4 r1 r2 r3 r4 : Pos) : List Stmt := [.Assign [.Attribute (.Name "self" q1) f q2] (.Name f q3) q4, .Assign [.Attribute (.Name "self" r1) g r2] (.Name g r3) r4]
def scope2 (f g : Str) : Scope := { kind := .function, names := [("self", .local), (f, .local), (g, .local)], isGenerator := false, isCoroutine := false, more := [] }
theorem look1 {f g : Str} {v : V} (h : f = g) : ([(g, v)] : List (Str × V)).lookup f = some v := by
  subst h
  simp [List.lookup]
section
variable {P : Program} {w : World} {K : PySem.W.Frag} {mg : Str → Option Value} {base : Heap} {qual f g : Str} {fI : Addr} {fd : FuncData} {p1 p2 p3 q1 q2 q3 q4 r1 r2 r3 r4 : Pos}
theorem ok_init1 (F : FunD K "__init__" qual (args1 f p1 p2) (body1 f q1 q2 q3 q4) (scope1 f) [] [] fI fd) (S : FnScope ["self", f] ["self", f] (scope1 f)) (v0 : (scope1 f).names.lookup ("self" : Str) = some .local) (v1 : (scope1 f).names.lookup f = some .local)
    (d1 : (f == ("__debug__" : Str)) = false) (c1 : (f == ("__classdict__" : Str)) = false) (hs : ∀ env, swapsWith (.Name f q3) (some (.Attribute (.Name "self" q1) f q2)) q4.line env = pure false) :
    FnOk P w K mg base CX0 1 fI fd ["self", f] (spErr K [f]) := by
  refine F.ok S (fun vs H Q E h => ?_) (fun cdv A outer s H vs Q E hr h => ?_)
  · obtain ⟨a, C, ws, rfl, l, _⟩ := h
    exact congrArg Nat.succ l
  · obtain ⟨a, C, ws, rfl, l, T, no, at_, k⟩ := h
    obtain ⟨v, rfl⟩ : ∃ v, ws = [v] := List.length_eq_one_iff.mp l
    refine ⟨_, PSs.nox (pss_one (ps_ost (pe_var (i := 0) rfl (.inl v0)) (pe_var (i := 1) rfl (.inl v1) d1 c1) (hs _))), ?_⟩
    refine ⟨v, rfl, .ref a, rfl, a, C, rfl, T, no f (List.mem_singleton.mpr rfl), .inl ⟨at_, fun dx nd ne => ?_⟩⟩
    refine k _ [(f, v)] (fun b o nb z => ?_) (.inr ⟨dx, upd_same, by rw [upd_ne ne, upd_same]⟩) (fun f' v' z => z)
    rw [upd_ne nb, upd_ne (ne_of_none z nd)]
    exact z
theorem ok_init2 (F : FunD K "__init__" qual (args2 f g p1 p2 p3) (body2 f g q1 q2 q3 q4 r1 r2 r3 r4) (scope2 f g) [] [] fI fd) (S : FnScope ["self", f, g] ["self", f, g] (scope2 f g)) (ng : f ≠ g) (v0 : (scope2 f g).names.lookup ("self" : Str) = some .local)
    (v1 : (scope2 f g).names.lookup f = some .local) (v2 : (scope2 f g).names.lookup g = some .local) (d1 : (f == ("__debug__" : Str)) = false) (c1 : (f == ("__classdict__" : Str)) = false) (d2 : (g == ("__debug__" : Str)) = false) (c2 : (g == ("__classdict__" : Str)) = false)
    (h1 : ∀ env, swapsWith (.Name f q3) (some (.Attribute (.Name "self" q1) f q2)) q4.line env = pure false) (h2 : ∀ env, swapsWith (.Name g r3) (some (.Attribute (.Name "self" r1) g r2)) r4.line env = pure false) :
    FnOk P w K mg base CX0 1 fI fd ["self", f, g] (spErr K [f, g]) := by
  refine F.ok S (fun vs H Q E h => ?_) (fun cdv A outer s H vs Q E hr h => ?_)
  · obtain ⟨a, C, ws, rfl, l, _⟩ := h
    exact congrArg Nat.succ l
  · obtain ⟨a, C, ws, rfl, l, T, no, at_, k⟩ := h
    obtain ⟨v, u, rfl⟩ : ∃ v u, ws = [v, u] := by
      match ws, l with
      | [v, u], _ => exact ⟨v, u, rfl⟩
    refine ⟨_, PSs.nox (pss_cons (ps_ost (pe_var (i := 0) rfl (.inl v0)) (pe_var (i := 1) rfl (.inl v1) d1 c1) (h1 _)) (pss_one (ps_ost (pe_var (i := 0) rfl (.inl v0)) (pe_var (i := 2) rfl (.inl v2) d2 c2) (h2 _)))), ?_⟩
    refine ⟨v, rfl, .ref a, rfl, a, C, rfl, T, no f (by simp), .inl ⟨at_, fun dx nd ne => ?_⟩⟩
    refine ⟨u, rfl, .ref a, rfl, a, C, rfl, T, no g (by simp), .inr ⟨dx, [(f, v)], upd_same, by rw [upd_ne ne, upd_same], by show 1 ≤ 900; decide, ?_⟩⟩
    refine k _ [(g, u), (f, v)] (fun b o nb z => ?_) (.inr ⟨dx, by rw [upd_ne ne.symm, upd_same], upd_same⟩) (fun f' v' z => ?_)
    · have nbd := ne_of_none z nd
      rw [upd_ne nbd, upd_ne nb, upd_ne nbd]
      exact z
    · have z' : List.lookup f' [(f, v), (g, u)] = some v' := z
      rw [lookup_put] at z'
      rw [lookup_put]
      by_cases e1 : f' = f
      · rw [if_pos e1] at z'
        cases z'
        rw [if_neg (fun e2 => ng (e1.symm.trans e2)), e1]
        exact look1 rfl
      · rw [if_neg e1, lookup_put] at z'
        by_cases e2 : f' = g
        · rw [if_pos e2] at z' ⊢
          exact z'
        · rw [if_neg e2] at z'
          cases z'
end
end L2.RV
set_option Elab.async false
set_option linter.all false
set_option maxRecDepth 100000
set_option maxHeartbeats 4000000
/-! What a law's proof asks of the heap behind the top, as one Bool. -/
namespace L2.RV
open PySem PySem.Spec PyProof.Rows
/-! ### the hook -/
def obsR (chk : PySem.W.Frag → Bool) (fn : List He.DefD) (K : PySem.W.Frag) : He.AlD := (chk K && fn.all fun d => d.ok K, fn.map fun d => He.fnW K d.at_)
def SaysR (chk : PySem.W.Frag → Bool) (fn : List He.DefD) (K : PySem.W.Frag) : Prop := obsR chk fn K = He.valD fn
def obsRG (n : Nat) (chk : PySem.W.Frag → Bool) (fn : List He.DefD) (g : Addr → Option Obj) : He.AlD := obsR chk fn (He.frG g (He.asD g n))
def hookR (n : Nat) (chk : PySem.W.Frag → Bool) (fn : List He.DefD) : PySem.W.Hook where
  α := He.AlD
  obs := fun s => obsRG n chk fn s.heap.get?
  val := fun _ => He.valD fn
  says := fun _ h => ∃ K : PySem.W.Frag, K.In h ∧ SaysR chk fn K
  of := fun _ _ e => ⟨_, He.frG_in, e⟩
  keeps := fun _ _ _ ⟨K, hK, c⟩ k => ⟨K, PySem.W.Frag.In.keeps hK k, c⟩
theorem obsRG_eq {n : Nat} {chk : PySem.W.Frag → Bool} {fn : List He.DefD} {g : Addr → Option Obj} {s : Shared} (h : ∀ a, g a = s.heap.get? a) : obsRG n chk fn g = (hookR n chk fn).obs s := by
  have e : g = s.heap.get? := funext h
  rw [e] <;> rfl
section
variable {chk : PySem.W.Frag → Bool} {fn : List He.DefD} {K : PySem.W.Frag}
theorem SaysR.look (c : SaysR chk fn K) : chk K = true := (Bool.and_eq_true_iff.mp (congrArg (fun z : He.AlD => z.1) c)).1
theorem SaysR.def_ (c : SaysR chk fn K) (i : Nat) {d : He.DefD} (h : fn[i]? = some d := by rfl) : ∃ fd, FunD K d.name d.qual d.params d.body d.scope (d.dvs K) (d.kws K) (He.fAd K d.at_) fd := by
  have all := (Bool.and_eq_true_iff.mp (congrArg (fun z : He.AlD => z.1) c)).2
  have same : fn.map (fun d => He.fnW K d.at_) = fn.map He.DefD.val := congrArg (fun z : He.AlD => z.2) c
  have at_ := congrArg (fun l => l[i]?) same
  simp only [List.getElem?_map, h, Option.map_some, Option.some.injEq] at at_
  exact He.DefD.funD at_ (List.all_eq_true.mp all d (List.mem_of_getElem? h))
end
/-! ### an own exception class -/
def eqOO (a b : Option (Option Value)) : Bool := decide (a = b)
def oexB (K : PySem.W.Frag) (C : Addr) : Bool := match K.lookup C with
  | some ⟨.type c, _, .cls cd, sl⟩ => (match cd.mro, sl.toList with
    | .ref C' :: bm, [_, _, _, _, some (.builtin n), _] => decide (c = "type") && (decide (C' = C) && (decide (n = "ValueError.__new__") && (!cd.hasDel && (cd.hasDict && PySem.HandSPX.refsVE bm))))
    | _, _ => false)
  | _ => false
def clsB (K : PySem.W.Frag) (C : Addr) : Bool := oexB K C && (eqOO (PySem.W.findIn K (.ref C) "__setattr__") (some (some (.builtin "object.__setattr__"))) && (decide (PySem.W.subIn K (.ref C) (.type "BaseException") = some true) &&
  (decide (PySem.W.typeIn K (.ref C) = some (.type "type")) && (PySem.W.keepIn K (.ref C) && (eqOO (PySem.W.findIn K (.ref C) "__getattribute__") (some (some (.builtin "BaseException.__getattribute__"))) && (eqOO (PySem.W.findIn K (.ref C) "__getattr__") (some none) &&
  (PySem.W.hasDictIn K C && (eqOO (PySem.W.findIn K (.ref C) "__class__") (some (some (.builtin "object.__class__"))) && (eqOO (PySem.W.specialIn K (.builtin "object.__class__") "__get__") (some (some (.builtin "getset_descriptor.__get__"))) &&
  (decide (PySem.W.takesIn K (.builtin "object.__class__") = some true) && decide (PySem.W.mroIn K C (.type "object") = some true)))))))))))
theorem ba2 {a b : Bool} (h : (a && b) = true) : a = true ∧ b = true := Bool.and_eq_true_iff.mp h
theorem oexB_ok {K : PySem.W.Frag} {C : Addr} (h : oexB K C = true) : ∃ nm q N bs bm sn sub ab col dd k0 k1 k2 k3 k5, K.lookup C = some (excClassObj nm q C N bs bm true sn sub ab col dd k0 k1 k2 k3 k5 "ValueError.__new__") ∧ PySem.HandSPX.refsVE bm = true := by
  unfold oexB at h
  split at h
  · rename_i c dd cd sl look
    split at h
    · rename_i C' bm k0 k1 k2 k3 n k5 hm hs
      obtain ⟨h1, h⟩ := ba2 h
      obtain ⟨h2, h⟩ := ba2 h
      obtain ⟨h3, h⟩ := ba2 h
      obtain ⟨h4, h⟩ := ba2 h
      obtain ⟨h5, h6⟩ := ba2 h
      obtain rfl := of_decide_eq_true h1
      obtain rfl := of_decide_eq_true h2
      obtain rfl := of_decide_eq_true h3
      obtain ⟨nm, bs, mro, ns, qn, hd, sn, sub, ab, col, del⟩ := cd
      dsimp only at hm h4 h5
      subst hm
      have h4' : del = false := by simpa using h4
      subst h4' h5
      obtain ⟨l⟩ := sl
      have hs' : l = [k0, k1, k2, k3, some (.builtin "ValueError.__new__"), k5] := hs
      subst hs'
      exact ⟨nm, qn, ns, bs, bm, sn, sub, ab, col, dd, k0, k1, k2, k3, k5, look, h6⟩
    · cases h
  · cases h
theorem clsB_ok {K : PySem.W.Frag} {C : Addr} (h : clsB K C = true) : OexC K C ∧ ExcC K C ∧ XfC K C := by
  obtain ⟨a0, h⟩ := ba2 h
  obtain ⟨a1, h⟩ := ba2 h
  obtain ⟨a2, h⟩ := ba2 h
  obtain ⟨a3, h⟩ := ba2 h
  obtain ⟨a4, h⟩ := ba2 h
  obtain ⟨a5, h⟩ := ba2 h
  obtain ⟨a6, h⟩ := ba2 h
  obtain ⟨a7, h⟩ := ba2 h
  obtain ⟨a8, h⟩ := ba2 h
  obtain ⟨a9, h⟩ := ba2 h
  obtain ⟨a10, a11⟩ := ba2 h
  exact ⟨⟨oexB_ok a0, of_decide_eq_true a1, of_decide_eq_true a2, of_decide_eq_true a3, a4⟩, ⟨of_decide_eq_true a5, of_decide_eq_true a6, of_decide_eq_true a2, a7, of_decide_eq_true a8, of_decide_eq_true a9, of_decide_eq_true a10, of_decide_eq_true a11⟩,
    ⟨of_decide_eq_true a5, of_decide_eq_true a6, of_decide_eq_true a2, a7⟩⟩
/-- the class x has an __init__ of its own with the fields ff -/
def iniB (K : PySem.W.Frag) (x : Str) (ff : List Str) : Bool := eqOO (PySem.W.findIn K (.ref (He.ga K x)) "__init__") (some (some (.ref (He.fAd K (x, some "__init__"))))) && (decide (PySem.W.typeIn K (.ref (He.fAd K (x, some "__init__"))) = some (.type "function")) &&
  ff.all fun f => eqOO (PySem.W.findIn K (.ref (He.ga K x)) f) (some none))
/-- the module's name x stands for an object -/
def gloB (K : PySem.W.Frag) (x : Str) : Bool := eqOO (PySem.W.nsIn K mainGlobals x) (some (some (.ref (He.ga K x))))
def freeB (K : PySem.W.Frag) (x : Str) : Bool := eqOO (PySem.W.nsIn K mainGlobals x) (some none)
section
variable {K : PySem.W.Frag} {h : Heap} {mg : Str → Option Value} {x : Str} {ff : List Str}
theorem gloB_ok (X : K.In h) (G : h.Ns mainGlobals mg) (c : gloB K x = true) : mg x = some (.ref (He.ga K x)) := PySem.W.mg_of X G (of_decide_eq_true c)
theorem freeB_ok (X : K.In h) (G : h.Ns mainGlobals mg) (c : freeB K x = true) : mg x = none := PySem.W.mg_none_of X G (of_decide_eq_true c)
theorem iniB_ok (c : iniB K x ff = true) : PySem.W.findIn K (.ref (He.ga K x)) "__init__" = some (some (.ref (He.fAd K (x, some "__init__")))) ∧ PySem.W.typeIn K (.ref (He.fAd K (x, some "__init__"))) = some (.type "function") ∧ ∀ f ∈ ff, PySem.W.findIn K (.ref (He.ga K x)) f = some none := by
  obtain ⟨a, c⟩ := ba2 c
  obtain ⟨b, c⟩ := ba2 c
  exact ⟨of_decide_eq_true a, of_decide_eq_true b, fun f m => of_decide_eq_true (List.all_eq_true.mp c f m)⟩
end
end L2.RV
set_option Elab.async false
set_option linter.all false
set_option maxRecDepth 100000
set_option maxHeartbeats 4000000
/-! repr of data: what stands in the heap as data, also in dicts. -/
namespace L2.RV
open PySem PySem.Spec PyProof.Rows
/-- all that was tracked is as it was, but at p -/
def Keep (p : Addr) (H H' : Hp) : Prop := ∀ b o, b ≠ p → H b = some o → H' b = some o
theorem Keep.refl {p : Addr} {H : Hp} : Keep p H H := fun _ _ _ h => h
theorem Keep.trans {p : Addr} {H H1 H2 : Hp} (a : Keep p H H1) (b : Keep p H1 H2) : Keep p H H2 := fun c o n h => b c o n (a c o n h)
theorem Keep.of {p : Addr} {H H' : Hp} (s : Same H H') : Keep p H H' := fun b o _ h => s b o h
theorem Keep.upd {p : Addr} {H : Hp} {o : HO} : Keep p H (upd H p o) := fun b u n h => by rw [upd_ne n]; exact h
theorem same_new {H : Hp} {a : Addr} {o : HO} (h : H a = none) : Same H (upd H a o) := fun b u z => by rw [upd_ne (ne_of_none z h)]; exact z
/-- v is the datum d, now and as long as what is tracked stands, but at p -/
def Rds (K : PySem.W.Frag) (p : Addr) (H : Hp) (v : V) (d : PyData) : Prop := ∀ (X : Cx) (pins : List (Addr × Obj)) (σ : L2.St) (H' : Hp) (s : Shared) (u : Value), X.K = K → Keep p H H' → Inv X pins σ H' s → RelV v u → ∃ as, Reads s.heap u d as ∧ sysModules ∉ as
theorem Rds.keep {K : PySem.W.Frag} {p : Addr} {H H' : Hp} {v : V} {d : PyData} (r : Rds K p H v d) (s : Keep p H H') : Rds K p H' v d := fun X pins σ H2 sh u e s2 I ru => r X pins σ H2 sh u e (s.trans s2) I ru
theorem Rds.same {K : PySem.W.Frag} {p : Addr} {H H' : Hp} {v : V} {d : PyData} (r : Rds K p H v d) (s : Same H H') : Rds K p H' v d := r.keep (.of s)
theorem rds_non {K : PySem.W.Frag} {p : Addr} {H : Hp} : Rds K p H .non .none := fun X pins σ H' s u _ _ _ r => by
  cases r
  exact ⟨_, .none, by simp⟩
theorem rds_bl {K : PySem.W.Frag} {p : Addr} {H : Hp} (b : Bool) : Rds K p H (.bl b) (.bool b) := fun X pins σ H' s u _ _ _ r => by
  cases r
  exact ⟨_, .bool b, by simp⟩
theorem rds_int {K : PySem.W.Frag} {p : Addr} {H : Hp} (i : Int) : Rds K p H (.int i) (.int i) := fun X pins σ H' s u _ _ _ r => by
  obtain ⟨t, rfl⟩ := r
  exact ⟨_, .int i t, by simp⟩
theorem rds_str {K : PySem.W.Frag} {p : Addr} {H : Hp} (x : Str) : Rds K p H (.str x) (.str x) := fun X pins σ H' s u _ _ _ r => by
  obtain ⟨t, rfl⟩ := r
  exact ⟨_, .str x t, by simp⟩
inductive RdsA (K : PySem.W.Frag) (p : Addr) (H : Hp) : List V → List PyData → Prop
  | nil : RdsA K p H [] []
  | cons {v : V} {vs : List V} {d : PyData} {ds : List PyData} : Rds K p H v d → RdsA K p H vs ds → RdsA K p H (v :: vs) (d :: ds)
theorem RdsA.reads {K : PySem.W.Frag} {p : Addr} {H : Hp} {X : Cx} {pins : List (Addr × Obj)} {σ : L2.St} {H' : Hp} {s : Shared} (e : X.K = K) (sm : Keep p H H') (I : Inv X pins σ H' s) : ∀ {vs : List V} {ds : List PyData} {us : List Value}, RdsA K p H vs ds → Vals vs us → ∃ as, ReadsAll s.heap us ds as ∧ sysModules ∉ as
  | _, _, _, .nil, .nil => ⟨_, .nil, by simp⟩
  | _, _, _, .cons h1 h2, .cons r1 r2 => by
    obtain ⟨as, q1, n1⟩ := h1 X pins σ H' s _ e sm I r1
    obtain ⟨bs, q2, n2⟩ := RdsA.reads e sm I h2 r2
    exact ⟨_, .cons q1 q2, fun z => (List.mem_append.mp z).elim n1 n2⟩
theorem rds_lst {K : PySem.W.Frag} {p : Addr} {H : Hp} {a : Addr} {xs : List V} {ds : List PyData} (h : H a = some (.lst xs)) (n : a ≠ sysModules) (np : a ≠ p) (r : RdsA K p H xs ds) : Rds K p H (.ref a) (.list ds) := fun X pins σ H' s u e sm I ru => by
  cases ru
  obtain ⟨its, rv, ⟨o, m, ho, hc, _, hd⟩, _⟩ := I.list (SqL.of (sm _ _ np h))
  obtain ⟨as, q, na⟩ := r.reads e sm I rv
  exact ⟨_, .list ho hc hd q, fun z => (List.mem_cons.mp z).elim (fun y => n y.symm) na⟩
theorem rds_tup {K : PySem.W.Frag} {p : Addr} {H : Hp} {a : Addr} {xs : List V} {ds : List PyData} (h : H a = some (.tup xs)) (np : a ≠ p) (r : RdsA K p H xs ds) : Rds K p H (.ref a) (.tuple ds) := fun X pins σ H' s u e sm I ru => by
  cases ru
  obtain ⟨its, rv, ⟨o, ho, hc, m, hd⟩, _⟩ := I.tuple (SqT.of (sm _ _ np h))
  obtain ⟨as, q, na⟩ := r.reads e sm I rv
  exact ⟨_, .tuple ho hc hd q, na⟩
/-- a key of a dict as data -/
def keyD : Key → PyData
  | .inl i => .int i
  | .inr x => .str x
theorem key_reads {h : Heap} {k : Key} {v : Value} (e : keyIs k v = true) : Reads h v (keyD k) [] := by
  rcases keyIs_shape e with ⟨i, t, rfl, rfl⟩ | ⟨x, t, rfl, rfl⟩
  · exact .int i t
  · exact .str x t
theorem pairs_reads {P : Program} {w : World} {h : Heap} : ∀ {es : List DictEntry} {vs : List (Key × Value)}, Pairs (mixKind P w) es vs → ReadsAll h (es.map (·.key)) (vs.map fun p => keyD p.1) [] ∧ es.map (·.val) = vs.map (·.2)
  | _, _, .nil => ⟨.nil, rfl⟩
  | _, _, .cons k e r => by
    obtain ⟨q1, q2⟩ := pairs_reads (h := h) r
    refine ⟨?_, ?_⟩
    · exact .cons (key_reads k) q1
    · rw [List.map_cons, List.map_cons, e, q2]
theorem kv_vals : ∀ {kvs : List (Key × V)} {vs : List (Key × Value)}, KV kvs vs → Vals (kvs.map (·.2)) (vs.map (·.2)) ∧ kvs.map (·.1) = vs.map (·.1)
  | _, _, .nil => ⟨.nil, rfl⟩
  | _, _, .cons h r => by
    obtain ⟨q1, q2⟩ := kv_vals r
    refine ⟨.cons h.2 q1, ?_⟩
    rw [List.map_cons, List.map_cons, h.1, q2]
theorem rds_dct {K : PySem.W.Frag} {p : Addr} {H : Hp} {a : Addr} {kvs : List (Key × V)} {ds : List PyData} (h : H a = some (.dK kvs)) (np : a ≠ p) (r : RdsA K p H (kvs.map (·.2)) ds) : Rds K p H (.ref a) (.dict ((kvs.map fun p => keyD p.1).zip ds)) := fun X pins σ H' s u e sm I ru => by
  cases ru
  obtain ⟨_, nm, vs, rel, o, es, ep, ho, ex, hd, _, hp, _⟩ := dk_of I.hok (sm _ _ np h)
  obtain ⟨rv, ek⟩ := kv_vals rel
  obtain ⟨q1, q2⟩ := pairs_reads (h := s.heap) hp
  obtain ⟨as, q, na⟩ := r.reads e sm I rv
  have l : (kvs.map fun p => keyD p.1).length = ds.length := by
    have l1 : ∀ {vs : List V} {ds : List PyData}, RdsA K p H vs ds → vs.length = ds.length := fun {vs ds} z => by
      induction z with
      | nil => rfl
      | cons _ _ ih => exact congrArg Nat.succ ih
    have l2 := l1 r
    rw [List.length_map] at l2 ⊢
    exact l2
  have ek2 : (kvs.map fun p => keyD p.1) = vs.map fun p => keyD p.1 := by
    have z := congrArg (List.map keyD) ek
    rw [List.map_map, List.map_map] at z
    exact z
  refine ⟨_, Reads.dict (as := []) (bs := as) ho ex.1 hd ?_ ?_, ?_⟩
  · rw [List.map_fst_zip (Nat.le_of_eq l), ek2]
    exact q1
  · rw [List.map_snd_zip (Nat.le_of_eq l.symm), q2]
    exact q
  · intro z
    have na2 : sysModules ≠ a := fun y => by
      rw [← y] at nm
      exact absurd nm (by decide)
    rcases List.mem_cons.mp z with y | y
    · exact na2 y
    · exact na y
/-- repr(x) of data -/
def rRepr (K : PySem.W.Frag) : List V → Hp → VK → Prop := fun xs H Q => ∃ p v d, xs = [v] ∧ Rds K p H v d ∧ d.showable = true ∧ d.depth ≤ 60 ∧ d.shown.length ≤ sizeLine ∧ Q (.str d.shown) H
theorem call_repr {X : Cx} (hg : X.A.guards = some []) (hu : X.A.units + 64 < cLine) : CallR X (.builtin "repr") (rRepr X.K) := by
  intro pins s σ H xs us Q I r h
  obtain ⟨p, v, d, rfl, rd, hs, hd, hz, q⟩ := h
  obtain ⟨u, rfl, ru⟩ := vals1 r
  obtain ⟨as, rds, nm⟩ := rd X pins σ H s u rfl Keep.refl I ru
  have fin : ∀ (h' : Heap) (t : Tok) (tk : Nat), (∀ b o, s.heap.get? b = some o → h'.get? b = some o) → EP X pins σ Q (.str d.shown t) { s with heap := h', toks := tk } := fun h' t tk k => ⟨.str d.shown, H, I.kept k, ⟨t, rfl⟩, q⟩
  have same : ∀ (t : Tok) (tk : Nat), EP X pins σ Q (.str d.shown t) { s with toks := tk } := fun t tk => fin s.heap t tk fun _ _ e => e
  have big : ∀ {a : Addr}, Reads s.heap (.ref a) d as → wpAny (model X.prog X.w) X.A (call (.builtin "repr") [.ref a]) (EP X pins σ Q) X.xe s := fun {a} rr => by
    refine repr_of_reads' (h₀ := s.heap) rr hs (fun _ => nm) hg ?_ (fun _ _ e => e) (fun h' u tk k => fin h' u tk k) hz
    have : d.depth + 1 ≤ 64 := Nat.le_trans (Nat.succ_le_succ hd) (by decide)
    omega
  cases rds with
  | none => exact PySem.P.repr_of_none (by
      have z := same s.toks (s.toks + 1)
      simpa only [PyData.shown] using z)
  | bool b => exact PySem.P.repr_of_bool (by
      have z := same s.toks (s.toks + 1)
      simpa only [PyData.shown] using z)
  | int i t => exact PySem.P.repr_of_int (by simpa [PyData.showable] using hs) (by
      have z := same s.toks (s.toks + 1)
      simpa only [PyData.shown] using z)
  | str x t => exact PySem.P.repr_of_str (by
      have z := same s.toks (s.toks + 1)
      simpa only [PyData.shown] using z) (by simpa only [PyData.shown] using hz)
  | list h1 h2 h3 h4 => exact big (.list h1 h2 h3 h4)
  | tuple h1 h2 h3 h4 => exact big (.tuple h1 h2 h3 h4)
  | dict h1 h2 h3 h4 h5 => exact big (.dict h1 h2 h3 h4 h5)
/-- a written list: its place is not that of sys.modules -/
def tLstN (t : TA) : TE := fun σ H Q => t σ H fun xs H1 => xs.length ≤ sizeLine ∧ ∀ p, H1 p = none → p ≠ sysModules → Q (.ref p) (upd H1 p (.lst xs))
theorem pe_lstN {X : Cx} {es : List Expr} {t : TA} {pos : Pos} (h : PA X es t) : PE X (.List es pos) (tLstN t) := by
  constructor
  intro pins s σ H Q I hq
  apply wpAny_List_spliced
  refine thn (h.run pos pins s σ H _ I hq) ?_
  rintro us s1 ⟨xs, H1, I1, r, z, q⟩
  refine ⟨by rw [← r.length]; exact z, ?_⟩
  have fresh : H1 s1.heap.objs.size = none := I1.hok.fresh (Nat.le_refl _)
  exact ⟨.ref s1.heap.objs.size, upd H1 s1.heap.objs.size (.lst xs), I1.laid (t' := s1.toks) (fun b u e => Heap.get?_push_of_some _ e) (Nat.le_refl _) ⟨z, us, 0, r, Heap.get?_push_size _ rfl⟩, rfl, q _ fresh (Nat.ne_of_gt I1.big)⟩
end L2.RV
set_option Elab.async false
set_option linter.all false
set_option maxRecDepth 100000
set_option maxHeartbeats 4000000
/-! One rule for each sign, whatever stands beside it. -/
namespace L2.RV
open PySem PySem.Spec PyProof.Rows
section
variable {X : Cx}
def rAddS : R2 := fun x y H Q => ∃ i j, x = .str i ∧ y = .str j ∧ i.length + j.length ≤ sizeLine ∧ Q (.str (i ++ j)) H
def rPlus : R2 := fun x y H Q => rI0 (fun i j => .int (i + j)) x y H Q ∨ (rCat x y H Q ∨ rAddS x y H Q)
theorem op_plus : OpR X (binaryOp .Add) rPlus := op_add.or (op_cat.or op_add_str)
/-- a text times a written number -/
def rMulS : R2 := fun x y H Q => ∃ z n, x = .str z ∧ y = .int n ∧ MulOk z n ∧ Q (.str (Txt.mul z n)) H
theorem op_mulS : OpR X (binaryOp .Mult) rMulS := by
  intro pins s σ H x y v u Q I rx ry h
  obtain ⟨z, n, rfl, rfl, ok, q⟩ := h
  obtain ⟨t, rfl⟩ := rx
  obtain ⟨t', rfl⟩ := ry
  exact PySem.SB.mul ok fun u k => ⟨.str _, H, I.tok _, ⟨_, rfl⟩, q⟩
def rTimes : R2 := fun x y H Q => rI CMul (fun i j => .int (i * j)) x y H Q ∨ (rRep x y H Q ∨ rMulS x y H Q)
theorem op_times : OpR X (binaryOp .Mult) rTimes := op_mul.or (op_rep.or op_mulS)
def rSame (K : PySem.W.Frag) : R2 := fun x y H Q => rEq x y H Q ∨ rEqD K x y H Q
def rDiff (K : PySem.W.Frag) : R2 := fun x y H Q => rNe x y H Q ∨ rNeD K x y H Q
theorem op_same (hu : X.A.units + 64 < cLine) : OpR X (compareOp .Eq) (rSame X.K) := op_eq.or (op_eqD hu)
theorem op_diff (hu : X.A.units + 64 < cLine) : OpR X (compareOp .NotEq) (rDiff X.K) := op_ne.or (op_neD hu)
end
/-! ### equal data -/
theorem dpA_str {K : PySem.W.Frag} {H : Hp} : ∀ xs : List Str, DpAll K H (xs.map V.str) (xs.map PyData.str)
  | [] => .nil
  | x :: xs => .cons (.str x) (dpA_str xs)
theorem dpA_int {K : PySem.W.Frag} {H : Hp} : ∀ xs : List Int, DpAll K H (xs.map V.int) (xs.map PyData.int)
  | [] => .nil
  | x :: xs => .cons (.int x) (dpA_int xs)
theorem lay_str : ∀ xs : List Str, (xs.all fun x => PyData.strOk x) = true → PyData.canLayAll0 (xs.map PyData.str) = true
  | [], _ => by simp [PyData.canLayAll0]
  | x :: xs, h => by
    obtain ⟨h1, h2⟩ := Bool.and_eq_true_iff.mp (show (PyData.strOk x && xs.all fun x => PyData.strOk x) = true from h)
    have z := lay_str xs h2
    simp [PyData.canLayAll0, PyData.canLay0, z, h1]
theorem lay_int : ∀ xs : List Int, PyData.canLayAll0 (xs.map PyData.int) = true
  | [] => by simp [PyData.canLayAll0]
  | x :: xs => by
    have z := lay_int xs
    simp [PyData.canLayAll0, PyData.canLay0, z]
theorem deep_str : ∀ xs : List Str, PyData.depthAll (xs.map PyData.str) ≤ 1
  | [] => by simp [PyData.depthAll]
  | x :: xs => by
    have z := deep_str xs
    simp only [List.map_cons, PyData.depthAll, PyData.depth]
    omega
theorem deep_int : ∀ xs : List Int, PyData.depthAll (xs.map PyData.int) ≤ 1
  | [] => by simp [PyData.depthAll]
  | x :: xs => by
    have z := deep_int xs
    simp only [List.map_cons, PyData.depthAll, PyData.depth]
    omega
theorem shaped_str {xs : List Str} (h : (xs.all fun x => PyData.strOk x) = true) : SeqAt.shaped (.list (xs.map PyData.str)) = true := by
  have z := deep_str xs
  have e : PyData.canLay0 (.list (xs.map PyData.str)) = true := by simp only [PyData.canLay0]; exact lay_str xs h
  have d : (PyData.list (xs.map PyData.str)).depth ≤ 64 := by simp only [PyData.depth]; omega
  unfold SeqAt.shaped
  rw [e, decide_eq_true d]
  rfl
theorem shaped_int (xs : List Int) : SeqAt.shaped (.list (xs.map PyData.int)) = true := by
  have z := deep_int xs
  have e : PyData.canLay0 (.list (xs.map PyData.int)) = true := by simp only [PyData.canLay0]; exact lay_int xs
  have d : (PyData.list (xs.map PyData.int)).depth ≤ 64 := by simp only [PyData.depth]; omega
  unfold SeqAt.shaped
  rw [e, decide_eq_true d]
  rfl
theorem same_data {d : PyData} (h : SeqAt.shaped d = true) : PyData.eqv d d = true := SeqAt.eqv_refl d (SeqAt.canLay_of_shaped h)
end L2.RV
set_option Elab.async false
set_option linter.all false
set_option maxRecDepth 100000
set_option maxHeartbeats 4000000
/-! Defs and error classes of the text, bundled for their callers. -/
namespace L2.RV
open PySem PySem.Spec PyProof.Rows
/-- the module's def x, with its promise -/
structure Def (P : Program) (w : World) (K : PySem.W.Frag) (mg : Str → Option Value) (base : Heap) (x : Str) (k : Nat) (ps : List Str) (sp : Sp) : Prop where
  ex : ∃ f fd, mg x = some (.ref f) ∧ PySem.W.keepIn K (.ref f) = true ∧ Binds K fd ps [] ∧ FnOk P w K mg base CX0 k f fd ps sp
structure DefG (P : Program) (w : World) (K : PySem.W.Frag) (mg : Str → Option Value) (base : Heap) (x : Str) (k : Nat) (ps : List Str) (sp : Sp) : Prop where
  ex : ∃ f fd, mg x = some (.ref f) ∧ PySem.W.keepIn K (.ref f) = true ∧ Binds K fd ps [] ∧ FnG P w K mg base CX0 k f fd ps sp
section
variable {X : Cx} {k : Nat} {ps : List Str} {sp : Sp} {x : Str} {p pos : Pos} {e : Expr} {es : List Expr} {t : TA}
theorem pe_callD (D : Def X.prog X.w X.K X.mg X.base x k ps sp) (hr : Room k X.A) (hg : Gl X x) (ha : PA X (e :: es) t) (hdb : (x == ("__debug__" : Str)) = false := by decide)
    (he : starEach (e :: es) X.env = (false, eval e X.env) :: starEach es X.env := by rfl) (hpl : (backTo pos (starEach es X.env)).any (·.1) = false := by rfl) : PE X (.Call (.Name x p) (e :: es) [] pos) (tCall sp [] E0 t) := by
  obtain ⟨f, fd, g, kp, b, F⟩ := D.ex
  exact pe_call F hr hg g kp b .nil pass0 ha hdb he hpl
theorem pe_callDG (D : DefG X.prog X.w X.K X.mg X.base x k ps sp) (hgu : X.A.guards = some []) (hr : Room k X.A) (hg : Gl X x) (ha : PA X (e :: es) t) (hdb : (x == ("__debug__" : Str)) = false := by decide)
    (he : starEach (e :: es) X.env = (false, eval e X.env) :: starEach es X.env := by rfl) (hpl : (backTo pos (starEach es X.env)).any (·.1) = false := by rfl) : PE X (.Call (.Name x p) (e :: es) [] pos) (tCall sp [] E0 t) := by
  obtain ⟨f, fd, g, kp, b, F⟩ := D.ex
  exact pe_callG F hgu hr hg g kp b .nil pass0 ha hdb he hpl
end
/-- an error stands at e, of the class at C; of its fields these are known -/
def ErrF (H : Hp) (e C : Addr) (l : List (Str × V)) : Prop := ∃ fs, ErrAt H e C fs ∧ ∀ f v, l.lookup f = some v → fs.lookup f = some v
theorem ErrF.same {H H' : Hp} {e C : Addr} {l : List (Str × V)} (x : ErrF H e C l) (s : Same H H') : ErrF H' e C l := by
  obtain ⟨fs, a, b⟩ := x
  exact ⟨fs, a.same s, b⟩
/-- error classes with one field, with two -/
structure Err1 (P : Program) (w : World) (K : PySem.W.Frag) (mg : Str → Option Value) (base : Heap) (x f : Str) (C : Addr) : Prop where
  ex : ∃ fI fd, MkX P w K mg base 1 x C fI fd [f] ∧ (∀ (s : Shared) (u v : Value), K.In s.heap → BindsTo s fd ⟨[u, v], []⟩ [("self", u), (f, v)]) ∧ ∀ (s : Shared) (u v : Value), K.In s.heap → BindsTo s fd ⟨[u], [(f, v)]⟩ [("self", u), (f, v)]
structure Err2 (P : Program) (w : World) (K : PySem.W.Frag) (mg : Str → Option Value) (base : Heap) (x f g : Str) (C : Addr) : Prop where
  ex : ∃ fI fd, MkX P w K mg base 1 x C fI fd [f, g] ∧ (∀ (s : Shared) (u v v' : Value), K.In s.heap → BindsTo s fd ⟨[u, v, v'], []⟩ [("self", u), (f, v), (g, v')]) ∧
    ∀ (s : Shared) (u v v' : Value), K.In s.heap → BindsTo s fd ⟨[u], [(g, v'), (f, v)]⟩ [("self", u), (f, v), (g, v')]
def tErr1 (C : Addr) (f : Str) (te : TE) : TE := fun σ H Q => te σ H fun v H1 => ∀ a H2, H1 a = none → Same H1 H2 → ErrF H2 a C [(f, v)] → Q (.ref a) H2
def tErr2 (C : Addr) (f g : Str) (ta tb : TE) : TE := fun σ H Q => ta σ H fun v H1 => tb σ H1 fun u H2 => ∀ a H3, H2 a = none → Same H2 H3 → ErrF H3 a C [(f, v), (g, u)] → Q (.ref a) H3
/-- the second field is told first -/
def tErr2R (C : Addr) (f g : Str) (tb ta : TE) : TE := fun σ H Q => tb σ H fun u H1 => ta σ H1 fun v H2 => ∀ a H3, H2 a = none → Same H2 H3 → ErrF H3 a C [(f, v), (g, u)] → Q (.ref a) H3
section
variable {X : Cx} {x f g : Str} {C : Addr} {p pos kp kq : Pos} {e e' : Expr} {te te' : TE}
theorem spl1 {pins : List (Addr × Obj)} {σ : L2.St} {H : Hp} {s : Shared} {R : VK} {Z : List Value → Shared → Prop} (ha : PE X e te) (I : Inv X pins σ H s) (h : te σ H R) (hf : ∀ u s1 v H1, Inv X pins σ H1 s1 → RelV v u → R v H1 → Z [u] s1)
    (h1 : starEach [e] X.env = (false, eval e X.env) :: starEach [] X.env := by rfl) : wpAny (model X.prog X.w) X.A (spliced (backTo pos (starEach [e] X.env))) Z X.xe s := by
  rw [h1]
  show wpAny _ _ (spliced ((false, eval e X.env) :: backTo pos (starEach [] X.env))) _ _ s
  apply Calls.spliced_cons
  refine thn (ha.run pins s σ H _ I h) ?_
  rintro u s1 ⟨v, H1, I1, r, q⟩
  exact Calls.spliced_nil (hf u s1 v H1 I1 r q)
theorem spl2 {pins : List (Addr × Obj)} {σ : L2.St} {H : Hp} {s : Shared} {R : V → V → Hp → Prop} {Z : List Value → Shared → Prop} (ha : PE X e te) (hb : PE X e' te') (I : Inv X pins σ H s) (h : te σ H fun v H1 => te' σ H1 fun v' H2 => R v v' H2)
    (hf : ∀ u u' s1 v v' H1, Inv X pins σ H1 s1 → RelV v u → RelV v' u' → R v v' H1 → Z [u, u'] s1)
    (h2 : starEach [e, e'] X.env = (false, eval e X.env) :: starEach [e'] X.env := by rfl) (h1 : starEach [e'] X.env = (false, eval e' X.env) :: starEach [] X.env := by rfl) : wpAny (model X.prog X.w) X.A (spliced (backTo pos (starEach [e, e'] X.env))) Z X.xe s := by
  rw [h2, h1]
  show wpAny _ _ (spliced ((false, eval e X.env) :: ((false, eval e' X.env) :: backTo pos (starEach [] X.env)))) _ _ s
  apply Calls.spliced_cons
  refine thn (ha.run pins s σ H _ I h) ?_
  rintro u s1 ⟨v, H1, I1, r, q⟩
  apply Calls.spliced_cons
  refine thn (hb.run pins s1 σ H1 _ I1 q) ?_
  rintro u' s2 ⟨v', H2, I2, r', q'⟩
  exact Calls.spliced_nil (hf u u' s2 v v' H2 I2 r r' q')
theorem pe_err1 (D : Err1 X.prog X.w X.K X.mg X.base x f C) (hr : Room 2 X.A) (hg : Gl X x) (ha : PE X e te) (hdb : (x == ("__debug__" : Str)) = false := by decide) (h1 : starEach [e] X.env = (false, eval e X.env) :: starEach [] X.env := by rfl)
    (hpl : (backTo pos (starEach [] X.env)).any (·.1) = false := by rfl) : PE X (.Call (.Name x p) [e] [] pos) (tErr1 C f te) := by
  obtain ⟨fI, fd, M, b1, b2⟩ := D.ex
  constructor
  intro pins s σ H Q I h
  apply wpAny_Call_Name_kw
  refine ld_glob I hg M.gC ?_ hdb
  refine PySem.W.callWith_K (h₀ := X.base) I.ok.mod.kin M.o.kC ?_ h1 hpl
  refine spl1 ha I h (fun u s1 v H1 I1 r q => ⟨I1.kIn, ?_⟩) h1
  exact run_mkX (ks := []) (ws := []) (as := [u]) (ts := [v]) M hr (fun s' u' kk => b1 s' u' u kk) I1 (.cons r .nil) rfl (by decide : 1 ≤ 1000) fun a H2 fs z1 z2 z3 z4 => q a H2 z1 z2 ⟨fs, z3, z4⟩
theorem pe_err2 (D : Err2 X.prog X.w X.K X.mg X.base x f g C) (hr : Room 2 X.A) (hg : Gl X x) (ha : PE X e te) (hb : PE X e' te') (hdb : (x == ("__debug__" : Str)) = false := by decide)
    (h2 : starEach [e, e'] X.env = (false, eval e X.env) :: starEach [e'] X.env := by rfl) (h1 : starEach [e'] X.env = (false, eval e' X.env) :: starEach [] X.env := by rfl)
    (hpl : (backTo pos (starEach [e'] X.env)).any (·.1) = false := by rfl) : PE X (.Call (.Name x p) [e, e'] [] pos) (tErr2 C f g te te') := by
  obtain ⟨fI, fd, M, b1, b2⟩ := D.ex
  constructor
  intro pins s σ H Q I h
  apply wpAny_Call_Name_kw
  refine ld_glob I hg M.gC ?_ hdb
  refine PySem.W.callWith_K (h₀ := X.base) I.ok.mod.kin M.o.kC ?_ h2 hpl
  refine spl2 ha hb I h (fun u u' s1 v v' H1 I1 r r' q => ⟨I1.kIn, ?_⟩) h2 h1
  exact run_mkX (ks := []) (ws := []) (as := [u, u']) (ts := [v, v']) M hr (fun s' z kk => b1 s' z u u' kk) I1 (.cons r (.cons r' .nil)) rfl (by decide : 2 ≤ 1000) fun a H2 fs z1 z2 z3 z4 => q a H2 z1 z2 ⟨fs, z3, z4⟩
theorem kws1 {pins : List (Addr × Obj)} {σ : L2.St} {H : Hp} {s : Shared} {R : VK} {Z : List Value → Shared → Prop} {n : Option Str} (ha : PE X e te) (I : Inv X pins σ H s) (h : te σ H R) (hf : ∀ u s1 v H1, Inv X pins σ H1 s1 → RelV v u → R v H1 → Z [u] s1) :
    wpAny (model X.prog X.w) X.A (evalAll ((backToKw pos (keywordEach [⟨n, e, kp⟩] X.env)).map (·.2))) Z X.xe s := by
  show wpAny _ _ (evalAll [do let v ← eval e X.env; standAt pos; pure v]) _ _ s
  apply wpAny_evalAll_cons
  apply wpAny_bind
  refine thn (ha.run pins s σ H _ I h) ?_
  rintro u s1 ⟨v, H1, I1, r, q⟩
  apply wpAny_bind
  apply wpAny_standAt
  apply wpAny_pure
  apply wpAny_evalAll_nil
  exact hf u s1 v H1 I1 r q
theorem kws2 {pins : List (Addr × Obj)} {σ : L2.St} {H : Hp} {s : Shared} {R : V → V → Hp → Prop} {Z : List Value → Shared → Prop} {n n' : Option Str} (ha : PE X e te) (hb : PE X e' te') (I : Inv X pins σ H s) (h : te σ H fun v H1 => te' σ H1 fun v' H2 => R v v' H2)
    (hf : ∀ u u' s1 v v' H1, Inv X pins σ H1 s1 → RelV v u → RelV v' u' → R v v' H1 → Z [u, u'] s1) :
    wpAny (model X.prog X.w) X.A (evalAll ((backToKw pos (keywordEach [⟨n, e, kp⟩, ⟨n', e', kq⟩] X.env)).map (·.2))) Z X.xe s := by
  show wpAny _ _ (evalAll [(do let v ← eval e X.env; standAt pos; pure v), (do let v ← eval e' X.env; standAt pos; pure v)]) _ _ s
  apply wpAny_evalAll_cons
  apply wpAny_bind
  refine thn (ha.run pins s σ H _ I h) ?_
  rintro u s1 ⟨v, H1, I1, r, q⟩
  apply wpAny_bind
  apply wpAny_standAt
  apply wpAny_pure
  apply wpAny_evalAll_cons
  apply wpAny_bind
  refine thn (hb.run pins s1 σ H1 _ I1 q) ?_
  rintro u' s2 ⟨v', H2, I2, r', q'⟩
  apply wpAny_bind
  apply wpAny_standAt
  apply wpAny_pure
  apply wpAny_evalAll_nil
  exact hf u u' s2 v v' H2 I2 r r' q'
theorem pe_err1K (D : Err1 X.prog X.w X.K X.mg X.base x f C) (hr : Room 2 X.A) (hg : Gl X x) (ha : PE X e te) (hdb : (x == ("__debug__" : Str)) = false := by decide) (hall : (backToKw pos (keywordEach [⟨some f, e, kp⟩] X.env)).all (·.1.isSome) = true := by rfl)
    (hks : (backToKw pos (keywordEach [⟨some f, e, kp⟩] X.env)).filterMap (·.1) = [f] := by rfl)
    (hpl : ((backTo pos (starEach [] X.env)).any (·.1) || (backToKw pos (keywordEach [⟨some f, e, kp⟩] X.env)).any (·.1.isNone)) = false := by rfl) : PE X (.Call (.Name x p) [] [⟨some f, e, kp⟩] pos) (tErr1 C f te) := by
  obtain ⟨fI, fd, M, b1, b2⟩ := D.ex
  constructor
  intro pins s σ H Q I h
  apply wpAny_Call_Name_kw
  refine ld_glob I hg M.gC ?_ hdb
  refine PySem.W.callWith_KW0 (h₀ := X.base) I.ok.mod.kin M.o.kC hall ?_ hpl
  refine kws1 ha I h (fun u s1 v H1 I1 r q => ⟨I1.kIn, ?_⟩)
  rw [hks]
  exact run_mkX (ks := [f]) (us := []) (ws := [u]) (as := [u]) (ts := [v]) M hr (fun s' u' kk => b2 s' u' u kk) I1 (.cons r .nil) rfl (by decide : 0 ≤ 1000) fun a H2 fs z1 z2 z3 z4 => q a H2 z1 z2 ⟨fs, z3, z4⟩
/-- by name, the second field ahead of the first -/
theorem pe_err2K (D : Err2 X.prog X.w X.K X.mg X.base x f g C) (hr : Room 2 X.A) (hg : Gl X x) (ha : PE X e te) (hb : PE X e' te') (hdb : (x == ("__debug__" : Str)) = false := by decide) (hall : (backToKw pos (keywordEach [⟨some g, e, kp⟩, ⟨some f, e', kq⟩] X.env)).all (·.1.isSome) = true := by rfl)
    (hks : (backToKw pos (keywordEach [⟨some g, e, kp⟩, ⟨some f, e', kq⟩] X.env)).filterMap (·.1) = [g, f] := by rfl)
    (hpl : ((backTo pos (starEach [] X.env)).any (·.1) || (backToKw pos (keywordEach [⟨some g, e, kp⟩, ⟨some f, e', kq⟩] X.env)).any (·.1.isNone)) = false := by rfl) : PE X (.Call (.Name x p) [] [⟨some g, e, kp⟩, ⟨some f, e', kq⟩] pos) (tErr2R C f g te te') := by
  obtain ⟨fI, fd, M, b1, b2⟩ := D.ex
  constructor
  intro pins s σ H Q I h
  apply wpAny_Call_Name_kw
  refine ld_glob I hg M.gC ?_ hdb
  refine PySem.W.callWith_KW0 (h₀ := X.base) I.ok.mod.kin M.o.kC hall ?_ hpl
  refine kws2 (R := fun u v H2 => ∀ a H3, H2 a = none → Same H2 H3 → ErrF H3 a C [(f, v), (g, u)] → Q (.ref a) H3) ha hb I h (fun u u' s1 v v' H1 I1 r r' q => ⟨I1.kIn, ?_⟩)
  rw [hks]
  exact run_mkX (ks := [g, f]) (us := []) (ws := [u, u']) (as := [u', u]) (ts := [v', v]) M hr (fun s' z kk => b2 s' z u' u kk) I1 (.cons r' (.cons r .nil)) rfl (by decide : 0 ≤ 1000) fun a H2 fs z1 z2 z3 z4 => q a H2 z1 z2 ⟨fs, z3, z4⟩
/-- an error class without an __init__ of its own, called without arguments -/
theorem pe_err0 {C : Addr} {bmB : List Value} {B newId initId : String} (F : ExcBaseFacts B newId initId bmB) (q : PySem.W.excIn X.K C bmB newId = true) (T : OexC X.K C) (gC : X.mg x = some (.ref C)) (hg : Gl X x) (hdb : (x == ("__debug__" : Str)) = false := by decide) :
    PE X (.Call (.Name x p) [] [] pos) (fun _ H Q => ∀ a H2, H a = none → Same H H2 → ErrF H2 a C [] → Q (.ref a) H2) := by
  constructor
  intro pins s σ H Q I h
  apply wpAny_Call_Name_kw
  refine ld_glob I hg gC ?_ hdb
  refine PySem.W.callWith_K0 I.kIn T.kC ?_
  show wpAny _ _ (call (.ref C) []) _ _ _
  obtain ⟨bm, N, nm, qn, bs, hdct, sn, sub, ab, col, dd, k0, k1, k2, k3, k5, mN, hC, hN, hni, tl⟩ := exc_obj I.kIn q
  refine wpAny_call_exc_subT F tl hC hN hni (fun h' a hm => ?_) (by show 0 ≤ sizeLine; exact Nat.zero_le _)
  have hn : H a = none := I.hok.gone hm.new
  obtain ⟨t, ht, _, _⟩ := hm.there
  have ok : ObjOk X.prog X.w (upd H a (exo a C none)) h' a (exo a C none) := exo_ok ht
  exact ⟨.ref a, upd H a (exo a C none), I.laidN hm.keeps hm.new hn ok, rfl, h a _ hn (fun b o z => by rw [upd_ne (ne_of_none z hn)]; exact z) ⟨[], .inl ⟨rfl, upd_same⟩, fun f v z => by cases z⟩⟩
end
/-- e.f of an error -/
def tErrF (K : PySem.W.Frag) (f : Str) (te : TE) : TE := fun σ H Q => te σ H fun x H1 => ∃ (e C : Addr) (l : List (Str × V)) (v : V), x = .ref e ∧ ErrF H1 e C l ∧ XfC K C ∧ PySem.W.findIn K (.ref C) f = some none ∧ l.lookup f = some v ∧ Q v H1
theorem pe_errF {X : Cx} {e : Expr} {te : TE} {pos : Pos} {f : Str} (he : PE X e te) (hb : attributeBase e f X.env (eval e X.env) = eval e X.env := by rfl) : PE X (.Attribute e f pos) (tErrF X.K f te) := by
  constructor
  intro pins s σ H Q I h
  apply attr_of hb
  refine thn (he.run pins s σ H _ I h) ?_
  rintro u s1 ⟨x, H1, I1, rx, e1, C, l, v, rfl, ⟨fs, at_, known⟩, T, no, lk, q⟩
  cases rx
  obtain ⟨ox, od, J, look⟩ := at_.inst I1
  have lk2 := known _ _ lk
  rcases look f with ⟨_, z⟩ | ⟨o, r, rfl, hl, rel⟩
  · rw [lk2] at z
    cases z
  · obtain ⟨u, hu, ru⟩ := RelO.some_of (v := v) (o := r) (by rw [← lk2]; exact rel)
    exact HandSPX.exc_get I1.kIn J T.ga T.gg T.exC (PySem.W.findObj_own T.hdC no rfl (by rw [hl, hu])) (handed_of ru) ⟨v, H1, I1.tok _, ru, q⟩
/-- isinstance(e, c) of an error -/
def rIsE (K : PySem.W.Frag) : List V → Hp → VK → Prop := fun xs H Q => ∃ (e C : Addr) (l : List (Str × V)) (c : V) (cv : Value) (b : Bool), xs = [.ref e, c] ∧ ErrF H e C l ∧ ExcC K C ∧ (∀ u, RelV c u → u = cv) ∧ PySem.W.kitOne K (.ref C) cv = some b ∧ Q (.bl b) H
theorem call_isE {X : Cx} : CallR X (.builtin "isinstance") (rIsE X.K) := by
  intro pins s σ H xs us Q I r h
  obtain ⟨e, C, l, c, cv, b, rfl, ⟨fs, at_, _⟩, cl, hcv, k, q⟩ := h
  exact call_isX pins s σ H _ us Q I r ⟨e, C, fs, c, cv, b, rfl, at_, cl, hcv, k, q⟩
end L2.RV
set_option Elab.async false
set_option linter.all false
set_option maxRecDepth 100000
set_option maxHeartbeats 4000000
/-! Defs of the text that raise, that take further arguments by a star; calls by the name of the one parameter. -/
namespace L2.RV
open PySem PySem.Spec PyProof.Rows
theorem bind_ofN {K : PySem.W.Frag} {x qual : Str} {params : Arguments} {body : List Stmt} {scope : Scope} {f : Addr} {fd : FuncData} {args : Args} {bs : List (Str × Value)} (F : FunD K x qual params body scope [] [] f fd)
    (b : ∀ (kV doc pm : Value) (an : Option Addr) (cdv ct : Value), bindArgs (PySem.W.fnOf x qual params body scope .none kV doc pm an cdv ct) args = pure bs) (s : Shared) : BindsTo s fd args bs := by
  obtain ⟨oc, od, dV, kV, doc, pm, an, cdv, ct, osl, rfl, lk, hcd, hD, hK⟩ := F.ex
  rcases hD with ⟨_, rfl⟩ | ⟨e, _⟩
  · exact .of_eq (b kV doc pm an cdv ct)
  · exact absurd rfl e
/-- the module's def x, with its promise; with one parameter it may be handed by its name -/
structure DefX (CX : CXT) (P : Program) (w : World) (K : PySem.W.Frag) (mg : Str → Option Value) (base : Heap) (x : Str) (k : Nat) (ps : List Str) (sp : Sp) : Prop where
  ex : ∃ f fd, mg x = some (.ref f) ∧ PySem.W.keepIn K (.ref f) = true ∧ Binds K fd ps [] ∧ FnOk P w K mg base CX k f fd ps sp ∧ ∀ p, ps = [p] → ∀ (s : Shared) (u : Value), BindsTo s fd ⟨[], [(p, u)]⟩ [(p, u)]
/-- def x(p, *q) -/
structure DefR (CX : CXT) (P : Program) (w : World) (K : PySem.W.Frag) (mg : Str → Option Value) (base : Heap) (x : Str) (k : Nat) (p : Str) (sp : Sp) : Prop where
  ex : ∃ f, mg x = some (.ref f) ∧ PySem.W.keepIn K (.ref f) = true ∧ FnR P w K mg base CX k f sp ∧
    ∀ (A : Around) (outer : List Env) (s : Shared) (H : Hp) (u : Value) (v : V) (Q : VK) (E : XK), Room k A → Env0 P w K mg base A outer s H → RelV v u → sp [v] H Q E → codeAny (model P w) A (.call (.ref f) ⟨[], [(p, u)]⟩) (CR CX outer P w H s Q E) s
section
variable {P : Program} {w : World} {K : PySem.W.Frag} {mg : Str → Option Value} {base : Heap} {CX : CXT} {k : Nat} {x qual pv p1 : Str} {params : Arguments} {body : List Stmt} {scope : Scope} {f : Addr} {fd : FuncData} {N : List Str} {sp : Sp}
/-- what a body shows of a def with a star -/
theorem starOk (F : FunD K x qual params body scope [] [] f fd) (S : FnScope N [p1, pv] scope) (hCX : StX.CXUp CX)
    (h0 : ∀ (kV doc pm : Value) (an : Option Addr) (cdv ct a : Value), bindArgs (PySem.W.fnOf x qual params body scope .none kV doc pm an cdv ct) ⟨[a], []⟩ = (newTuple [] >>= fun t => pure [(p1, a), (pv, t)]))
    (h1 : ∀ (kV doc pm : Value) (an : Option Addr) (cdv ct a r : Value) (rs : List Value), bindArgs (PySem.W.fnOf x qual params body scope .none kV doc pm an cdv ct) ⟨a :: r :: rs, []⟩ = (newTuple (r :: rs) >>= fun t => pure [(p1, a), (pv, t)]))
    (h2 : ∀ (kV doc pm : Value) (an : Option Addr) (cdv ct a : Value), bindArgs (PySem.W.fnOf x qual params body scope .none kV doc pm an cdv ct) ⟨[], [(p1, a)]⟩ = (newTuple [] >>= fun t => pure [(p1, a), (pv, t)]))
    (hbody : ∀ (cdv : Value) (A : Around) (outer : List Env) (s : Shared) (H : Hp) (vs : List V) (Q : VK) (E : XK), Room k (A.deeper (envOfC qual scope s.heap.objs.size f cdv)) → sp vs H Q E →
      ∃ t, PSs (cxOf CX P w K mg base N qual scope f cdv A outer s H E) body t ∧ t { nx := fun _ H' => Q .non H', rt := Q } (start N vs) H) :
    FnR P w K mg base CX (k + 1) f (fun vs H Q E => ∃ v rest, vs = v :: rest ∧ rest.length ≤ sizeLine ∧ ∀ p, H p = Option.none → sp [v, V.ref p] (upd H p (.tup rest)) Q E) ∧
    ∀ (A : Around) (outer : List Env) (s : Shared) (H : Hp) (u : Value) (v : V) (Q : VK) (E : XK), Room (k + 1) A → Env0 P w K mg base A outer s H → RelV v u → (∀ p, H p = Option.none → sp [v, V.ref p] (upd H p (.tup [])) Q E) →
      codeAny (model P w) A (.call (.ref f) ⟨[], [(p1, u)]⟩) (CR CX outer P w H s Q E) s := by
  obtain ⟨oc, od, dV, kV, doc, pm, an, cdv, ct, osl, rfl, lk, hcd, hD, hK⟩ := F.ex
  rcases hD with ⟨_, rfl⟩ | ⟨e, _⟩
  · refine ⟨?_, ?_⟩
    · refine FnR.imp (StX.fn_star (ps := [p1]) (sp := sp) lk hcd S hCX (StX.bind_star1 (B := fun us => bindArgs _ ⟨us, []⟩) (fun a => h0 kV doc pm an cdv ct a) (fun a r rs => h1 kV doc pm an cdv ct a r rs)) (fun A outer s H vs Q E hr hs => hbody cdv A outer s H vs Q E hr hs)) fun vs H Q E hs => ?_
      obtain ⟨v, rest, rfl, l, q⟩ := hs
      exact ⟨[v], rest, rfl, rfl, l, q⟩
    · intro A outer s H u v Q E hr e0 rv hq
      have hn : H s.heap.objs.size = Option.none := e0.hok.fresh (Nat.le_refl _)
      refine StX.run_bnd lk hcd S hr e0 (G := fun xs H2 => ∃ p, H p = Option.none ∧ xs = [v] ++ [V.ref p] ∧ H2 = upd H p (.tup [])) (fun A' Ex Q' h => ?_) fun s2 H2 xs ⟨p, hp, ex, eH⟩ hr' => ?_
      · rw [h2 kV doc pm an cdv ct u]
        refine wpAny_bind (wpAny_newTuple (wpAny_pure ?_) (by decide))
        have new : ObjOk P w (upd H s.heap.objs.size (.tup [])) (s.heap.push ({ cls := .type "tuple", data := .seq ([] : List Value).toArray } : Obj)) s.heap.objs.size (.tup []) := ⟨by decide, [], .nil, ⟨_, Heap.get?_push_size _ rfl, rfl, _, rfl⟩⟩
        have un := StX.un_laid (fs := frs outer) (s := s) (o := ({ cls := .type "tuple", data := .seq ([] : List Value).toArray } : Obj)) (u := .tup []) hn
        exact h _ _ ([v] ++ [V.ref s.heap.objs.size]) ([u] ++ [Value.ref s.heap.objs.size]) (StX.env0_laid e0 new) un rfl (fun e s' => hCX outer s H _ _ E e s' un (fun b o q => Heap.get?_push_of_some _ q) rfl) (.cons rv (.cons rfl .nil)) rfl ⟨_, hn, rfl, rfl⟩
      · subst ex eH
        exact hbody cdv A outer s2 _ _ Q E hr' (hq p hp)
  · exact absurd rfl e
end
section
variable {X : Cx} {CX : CXT} {k : Nat} {ps : List Str} {sp : Sp} {E : XK} {x p1 : Str} {p pos kp : Pos} {e : Expr} {es : List Expr} {te : TE} {t : TA}
theorem pe_callX (D : DefX CX X.prog X.w X.K X.mg X.base x k ps sp) (hr : Room k X.A) (hg : Gl X x) (hx : Passes CX X E) (ha : PA X (e :: es) t) (hdb : (x == ("__debug__" : Str)) = false := by decide)
    (he : starEach (e :: es) X.env = (false, eval e X.env) :: starEach es X.env := by rfl) (hpl : (backTo pos (starEach es X.env)).any (·.1) = false := by rfl) : PE X (.Call (.Name x p) (e :: es) [] pos) (tCall sp [] E t) := by
  obtain ⟨f, fd, g, kp, b, F, _⟩ := D.ex
  exact pe_call F hr hg g kp b .nil hx ha hdb he hpl
/-- x(p = e) -/
theorem pe_callXK (D : DefX CX X.prog X.w X.K X.mg X.base x k [p1] sp) (hr : Room k X.A) (hg : Gl X x) (hx : Passes CX X E) (ha : PE X e te) (hdb : (x == ("__debug__" : Str)) = false := by decide) (hall : (backToKw pos (keywordEach [⟨some p1, e, kp⟩] X.env)).all (·.1.isSome) = true := by rfl)
    (hks : (backToKw pos (keywordEach [⟨some p1, e, kp⟩] X.env)).filterMap (·.1) = [p1] := by rfl)
    (hpl : ((backTo pos (starEach [] X.env)).any (·.1) || (backToKw pos (keywordEach [⟨some p1, e, kp⟩] X.env)).any (·.1.isNone)) = false := by rfl) : PE X (.Call (.Name x p) [] [⟨some p1, e, kp⟩] pos) (tCall sp [] E (tCons te tNil)) := by
  obtain ⟨f, fd, g, kp', b, F, kw⟩ := D.ex
  constructor
  intro pins s σ H Q I h
  apply wpAny_Call_Name_kw
  refine ld_glob I hg g ?_ hdb
  refine PySem.W.callWith_KW0 (h₀ := X.base) I.ok.mod.kin kp' hall ?_ hpl
  refine kws1 (R := fun v H1 => sp [v] H1 Q E) ha I h (fun u s1 v H1 I1 r q => ⟨I1.kIn, ?_⟩)
  rw [hks]
  refine wpAny_call (codeAny_mono (F.run X.A X.stack s1 H1 ⟨[], [(p1, u)]⟩ [u] [v] Q E hr I1.env0 (kw p1 rfl s1 u) (.cons r .nil) q) fun r s' hq => ?_)
  cases r with
  | error e => exact hx pins σ H1 s1 e s' I1 hq
  | ok fl =>
    cases fl with
    | ret u => exact I1.after hq
    | next => exact False.elim hq
    | brk => exact False.elim hq
    | cont => exact False.elim hq
theorem pe_callR (D : DefR CX X.prog X.w X.K X.mg X.base x k p1 sp) (hr : Room k X.A) (hg : Gl X x) (hx : Passes CX X E) (ha : PA X (e :: es) t) (hdb : (x == ("__debug__" : Str)) = false := by decide)
    (he : starEach (e :: es) X.env = (false, eval e X.env) :: starEach es X.env := by rfl) (hpl : (backTo pos (starEach es X.env)).any (·.1) = false := by rfl) : PE X (.Call (.Name x p) (e :: es) [] pos) (tCall sp [] E t) := by
  obtain ⟨f, g, kp, F, _⟩ := D.ex
  refine ⟨fun pins s σ H Q I h => ?_⟩
  refine wpAny_Call_Name_kw (ld_glob I hg g ?_ hdb)
  refine PySem.W.callWith_K (h₀ := X.base) I.ok.mod.kin kp (thn (ha.run pos pins s σ H _ I h) fun us s1 ⟨vs, H1, I1, r, q⟩ => ⟨I1.kIn, ?_⟩) he hpl
  have q' : sp (vs ++ []) H1 Q E := q
  rw [List.append_nil] at q'
  exact wpAny_call (run_fnR F hr hx I1 r q')
theorem pe_callRK (D : DefR CX X.prog X.w X.K X.mg X.base x k p1 sp) (hr : Room k X.A) (hg : Gl X x) (hx : Passes CX X E) (ha : PE X e te) (hdb : (x == ("__debug__" : Str)) = false := by decide) (hall : (backToKw pos (keywordEach [⟨some p1, e, kp⟩] X.env)).all (·.1.isSome) = true := by rfl)
    (hks : (backToKw pos (keywordEach [⟨some p1, e, kp⟩] X.env)).filterMap (·.1) = [p1] := by rfl)
    (hpl : ((backTo pos (starEach [] X.env)).any (·.1) || (backToKw pos (keywordEach [⟨some p1, e, kp⟩] X.env)).any (·.1.isNone)) = false := by rfl) : PE X (.Call (.Name x p) [] [⟨some p1, e, kp⟩] pos) (tCall sp [] E (tCons te tNil)) := by
  obtain ⟨f, g, kp', F, kw⟩ := D.ex
  constructor
  intro pins s σ H Q I h
  apply wpAny_Call_Name_kw
  refine ld_glob I hg g ?_ hdb
  refine PySem.W.callWith_KW0 (h₀ := X.base) I.ok.mod.kin kp' hall ?_ hpl
  refine kws1 (R := fun v H1 => sp [v] H1 Q E) ha I h (fun u s1 v H1 I1 r q => ⟨I1.kIn, ?_⟩)
  rw [hks]
  refine wpAny_call (codeAny_mono (kw X.A X.stack s1 H1 u v Q E hr I1.env0 r q) fun r s' hq => ?_)
  cases r with
  | error e => exact hx pins σ H1 s1 e s' I1 hq
  | ok fl =>
    cases fl with
    | ret u => exact I1.after hq
    | next => exact False.elim hq
    | brk => exact False.elim hq
    | cont => exact False.elim hq
end
end L2.RV
set_option Elab.async false
set_option linter.all false
set_option maxRecDepth 100000
set_option maxHeartbeats 4000000
/-! Methods of the text, bundled for their callers. -/
namespace L2.RV
open PySem PySem.Spec PyProof.Rows
/-- C's method m, with its promise -/
structure MethX (CX : CXT) (P : Program) (w : World) (K : PySem.W.Frag) (mg : Str → Option Value) (base : Heap) (C : Addr) (m : Str) (k : Nat) (ps : List Str) (sp : Sp) : Prop where
  ex : ∃ f fd, Meth K C m f ∧ Binds K fd ps [] ∧ FnOk P w K mg base CX k f fd ps sp
section
variable {X : Cx} {CX : CXT} {C : Addr} {k : Nat} {ps : List Str} {sp : Sp} {E : XK} {m : Str} {apos pos : Pos} {o e : Expr} {es : List Expr} {ta : TE} {t : TA} {pl : Sem Bool}
theorem pe_mX (D : MethX CX X.prog X.w X.K X.mg X.base C m k ps sp) (c : Cls X.K C) (hr : Room k X.A) (hx : Passes CX X E) (he : PE X o ta) (ha : PA X (e :: es) t)
    (hst : starEach (e :: es) X.env = (false, eval e X.env) :: starEach es X.env := by rfl) (hpl : (backTo pos (starEach es X.env)).any (·.1) = false := by rfl)
    (ht : eval (.Call (.Attribute o m apos) (e :: es) [] pos) X.env = (do
      let ov ← eval o X.env
      standAt apos.atName
      let (f, first) ← holding [ov] (getMethod ov m pl)
      callWith pos f first (backTo pos (starEach (e :: es) X.env)) (backToKw pos (keywordEach [] X.env))) := by rfl) :
    PE X (.Call (.Attribute o m apos) (e :: es) [] pos) (tMeth C m sp [] E ta t) := by
  obtain ⟨f, fd, hm, b, F⟩ := D.ex
  exact pe_meth he c hm F hr b .nil hx ha hst hpl ht
theorem pe_mX0 (D : MethX CX X.prog X.w X.K X.mg X.base C m k ps sp) (c : Cls X.K C) (hr : Room k X.A) (hx : Passes CX X E) (he : PE X o ta)
    (ht : eval (.Call (.Attribute o m apos) [] [] pos) X.env = (do
      let ov ← eval o X.env
      standAt apos.atName
      let (f, first) ← holding [ov] (getMethod ov m pl)
      callWith pos f first (backTo pos (starEach [] X.env)) (backToKw pos (keywordEach [] X.env))) := by rfl) :
    PE X (.Call (.Attribute o m apos) [] [] pos) (tMeth C m sp [] E ta tNil) := by
  obtain ⟨f, fd, hm, b, F⟩ := D.ex
  exact pe_meth0 he c hm F hr b .nil hx ht
end
theorem pass_CX0 {X : Cx} : Passes CX0 X E0 := fun _ _ _ _ _ _ _ h => h.elim
end L2.RV
namespace L2.RV
open PySem PySem.Spec PyProof.Rows
/-- the class x, made with some arguments, dvs its further defaults -/
structure MakeX (CX : CXT) (P : Program) (w : World) (K : PySem.W.Frag) (mg : Str → Option Value) (base : Heap) (x : Str) (C : Addr) (k : Nat) (ps : List Str) (dvs : List V) (sp : Sp) : Prop where
  ex : ∃ f fd ds, Mk K C f ∧ mg x = some (.ref C) ∧ Binds K fd ps ds ∧ Vals dvs ds ∧ FnOk P w K mg base CX k f fd ps sp
theorem pe_mkX {X : Cx} {CX : CXT} {x : Str} {C : Addr} {k : Nat} {ps : List Str} {dvs : List V} {sp : Sp} {E : XK} {p pos : Pos} {e : Expr} {es : List Expr} {t : TA} (D : MakeX CX X.prog X.w X.K X.mg X.base x C k ps dvs sp) (hr : Room (k + 1) X.A) (hg : Gl X x) (hx : Passes CX X E)
    (ha : PA X (e :: es) t) (hdb : (x == ("__debug__" : Str)) = false := by decide) (he : starEach (e :: es) X.env = (false, eval e X.env) :: starEach es X.env := by rfl) (hpl : (backTo pos (starEach es X.env)).any (·.1) = false := by rfl) :
    PE X (.Call (.Name x p) (e :: es) [] pos) (tMake C sp dvs E t) := by
  obtain ⟨f, fd, ds, M, hm, b, v, F⟩ := D.ex
  exact pe_make M F hr hg hm b v hx ha hdb he hpl
end L2.RV
namespace L2.RV
open PySem PySem.Spec PyProof.Rows
/-- the module's def x, dvs its further defaults -/
structure DefXD (CX : CXT) (P : Program) (w : World) (K : PySem.W.Frag) (mg : Str → Option Value) (base : Heap) (x : Str) (k : Nat) (ps : List Str) (dvs : List V) (sp : Sp) : Prop where
  ex : ∃ f fd ds, mg x = some (.ref f) ∧ PySem.W.keepIn K (.ref f) = true ∧ Binds K fd ps ds ∧ Vals dvs ds ∧ FnOk P w K mg base CX k f fd ps sp
theorem pe_callXD {X : Cx} {CX : CXT} {x : Str} {k : Nat} {ps : List Str} {dvs : List V} {sp : Sp} {E : XK} {p pos : Pos} {e : Expr} {es : List Expr} {t : TA} (D : DefXD CX X.prog X.w X.K X.mg X.base x k ps dvs sp) (hr : Room k X.A) (hg : Gl X x) (hx : Passes CX X E)
    (ha : PA X (e :: es) t) (hdb : (x == ("__debug__" : Str)) = false := by decide) (he : starEach (e :: es) X.env = (false, eval e X.env) :: starEach es X.env := by rfl) (hpl : (backTo pos (starEach es X.env)).any (·.1) = false := by rfl) :
    PE X (.Call (.Name x p) (e :: es) [] pos) (tCall sp dvs E t) := by
  obtain ⟨f, fd, ds, g, kp, b, v, F⟩ := D.ex
  exact pe_call F hr hg g kp b v hx ha hdb he hpl
end L2.RV
set_option Elab.async false
set_option linter.all false
set_option maxRecDepth 100000
set_option maxHeartbeats 4000000
/-! The pen of a law: its list of numbers, how many draws were made, what is left of a great one. -/
namespace L2.RV
open PySem PySem.Spec PyProof.Rows
structure PenAt (H : Hp) (p l : Addr) (ns : List Int) (at_ rest : Int) : Prop where
  pen : H p = some (.lst [.ref l, .int at_, .int rest])
  nums : H l = some (.lst (ns.map V.int))
  ne : l ≠ p
  few : ns.length ≤ 63
  from0 : 0 ≤ at_
  rest0 : 0 ≤ rest
theorem PenAt.same {H H' : Hp} {p l : Addr} {ns : List Int} {a r : Int} (x : PenAt H p l ns a r) (s : Same H H') : PenAt H' p l ns a r := ⟨s _ _ x.pen, s _ _ x.nums, x.ne, x.few, x.from0, x.rest0⟩
/-- _law_pen(script) -/
def spPen (K : PySem.W.Frag) : Sp := fun vs H Q _ => ∃ (a : Addr) (ns : List Int), vs = [.ref a] ∧ SqL K H a (ns.map V.int) ∧ ns.length ≤ 63 ∧ ∀ H' p l ns', Same H H' → H p = none → PenAt H' p l ns' 0 0 → Q (.ref p) H'
/-- _law_draw(pen, many) -/
def spDraw : Sp := fun vs H Q _ => ∃ (p l : Addr) (ns : List Int) (a r m : Int), vs = [.ref p, .int m] ∧ PenAt H p l ns a r ∧ a ≤ 100000 ∧ 0 < m ∧ m < 1073741824 ∧
  ∀ H' a' r' d, Keep p H H' → PenAt H' p l ns a' r' → a' ≤ a + 1 → 0 ≤ d → d < m → Q (.int d) H'
/-- _law_pick(pen, some) -/
def spPick : Sp := fun vs H Q _ => ∃ (p l q : Addr) (ns : List Int) (a r : Int) (xs : List V), vs = [.ref p, .ref q] ∧ PenAt H p l ns a r ∧ a ≤ 100000 ∧ H q = some (.lst xs) ∧ q ≠ p ∧ 0 < xs.length ∧ xs.length < 1000000 ∧
  ∀ H' a' r' v, Keep p H H' → PenAt H' p l ns a' r' → a' ≤ a + 1 → v ∈ xs → Q v H'
theorem rd_ix {K : PySem.W.Frag} {H : Hp} {p : Addr} {xs : List V} {k : Int} {v : V} {Q : VK} (h : H p = some (.lst xs)) (e : atI xs k = some v) (q : Q v H) : rIx K (.ref p) (.int k) H Q := .inl ⟨p, xs, k, v, rfl, rfl, SqL.of h, e, q⟩
theorem rd_set {H : Hp} {p : Addr} {xs : List V} (ys : List V) {k : Int} {j : Nat} {v : V} {Q : Hp → Prop} (h : H p = some (.lst xs)) (e : ixN xs.length k = some j) (w : xs.set j v = ys) (q : Q (upd H p (.lst ys))) : rSetL (.ref p) (.int k) v H Q := ⟨p, xs, k, j, rfl, rfl, h, e, by rw [w]; exact q⟩
theorem cut_ints (ns : List Int) (lo hi : Option Int) : ∃ ms : List Int, cutV (ns.map V.int) lo hi = ms.map V.int ∧ ms.length ≤ ns.length := by
  refine ⟨(ns.drop (HT.sIx (ns.map V.int).length 0 lo)).take (HT.sIx (ns.map V.int).length (ns.map V.int).length hi - HT.sIx (ns.map V.int).length 0 lo), ?_, ?_⟩
  · unfold cutV
    rw [List.map_take, List.map_drop]
  · rw [List.length_take, List.length_drop]
    omega
theorem atI_mod {ns : List Int} {a : Int} (h : 0 < ns.length) (h0 : 0 ≤ a) : ∃ c, atI (ns.map V.int) (a % (ns.map V.int).length) = some (.int c) := by
  have hl : ((ns.map V.int).length : Int) = (ns.length : Int) := by rw [List.length_map]
  have b0 : 0 ≤ a % (ns.length : Int) := Int.emod_nonneg _ (by omega)
  have b1 : a % (ns.length : Int) < (ns.length : Int) := Int.emod_lt_of_pos _ (by omega)
  obtain ⟨j, hj⟩ : ∃ j : Nat, a % (ns.length : Int) = (j : Int) := ⟨_, (Int.toNat_of_nonneg b0).symm⟩
  have lt : j < ns.length := by omega
  refine ⟨ns[j], ?_⟩
  rw [hl, hj]
  exact atI_nat (by rw [List.getElem?_map, List.getElem?_eq_getElem lt]; rfl)
theorem no_ints {ns : List Int} : PyData.eqv (.list (ns.map PyData.int)) (.list []) = ns.isEmpty := by
  cases ns with
  | nil => rfl
  | cons n ns => rfl
theorem mul_small {x y b c : Int} (x0 : 0 ≤ x) (x1 : x ≤ b) (y0 : 0 ≤ y) (y1 : y ≤ c) : 0 ≤ x * y ∧ x * y ≤ b * c :=
  ⟨Int.mul_nonneg x0 y0, Int.le_trans (Int.mul_le_mul_of_nonneg_right x1 y0) (Int.mul_le_mul_of_nonneg_left y1 (Int.le_trans x0 x1))⟩
theorem cpow5 {x : Int} (x0 : 0 ≤ x) (x1 : x ≤ 1000000000000) : CPow x 5 := ⟨by decide, by decide, by omega⟩
theorem cpow3 {y u v a c : Int} (y0 : 0 ≤ y) (y1 : y ≤ 2147483648) (u0 : 0 ≤ u) (u1 : u ≤ 1048576) (v0 : 0 ≤ v) (v1 : v ≤ 1099511627776) (a0 : 0 ≤ a) (a1 : a ≤ 100000) (c0 : 0 ≤ c) (c1 : c ≤ 1000000) : CPow (y * u + v * a + c) 3 := by
  have z1 := mul_small y0 y1 u0 u1
  have z2 := mul_small v0 v1 a0 a1
  exact ⟨by decide, by decide, by omega⟩
theorem cmulL {x y : Int} (x0 : 0 ≤ x) (x1 : x ≤ 1000000000000000000) : CMul x y := .inl ⟨by omega, by omega⟩
theorem e18 : (10 : Int) ^ (18 : Int).toNat = 1000000000000000000 := by decide
theorem c18 : CPow 10 18 := ⟨by decide, by decide, by decide⟩
end L2.RV
set_option Elab.async false
set_option linter.all false
set_option maxRecDepth 100000
set_option maxHeartbeats 4000000
/-! Defs that make lambdas, and the def that is handed one; what stays where tables grow. -/
namespace L2.RV
open PySem PySem.Spec PyProof.Rows
section
variable {P : Program} {w : World} {K : PySem.W.Frag} {mg : Str → Option Value} {base : Heap} {x qual : Str} {params : Arguments} {body : List Stmt} {scope : Scope} {dvs : List V} {kws : List (Str × V)} {fd : FuncData}
/-- as okG; the code object is the one that the def's place tells -/
theorem okGC {CX : CXT} {N ps : List Str} {k : Nat} {sp : Sp} {p : He.Defn} (F : FunD K x qual params body scope dvs kws (He.fAd K p) fd) (S : FnScope N ps scope) (many : ∀ vs H Q E, sp vs H Q E → vs.length = ps.length)
    (hb : ∀ (A : Around) (outer : List Env) (s : Shared) (H : Hp) (vs : List V) (Q : VK) (E : XK), A.guards = some [] → Room k (A.deeper (envOfC qual scope s.heap.objs.size (He.fAd K p) (.ref (He.codeOf K p)))) → sp vs H Q E →
      ∃ t, PSs (cxOf CX P w K mg base N qual scope (He.fAd K p) (.ref (He.codeOf K p)) A outer s H E) body t ∧ t { nx := fun _ H' => Q .non H', rt := Q } (start N vs) H) : FnG P w K mg base CX (k + 1) (He.fAd K p) fd ps sp := by
  obtain ⟨oc, od, dV, kV, doc, pm, an, cdv, ct, osl, rfl, lk, hcd, _, _⟩ := F.ex
  obtain ⟨c, rfl⟩ := He.codeIn_ref hcd
  have e : He.codeOf K p = c := He.codeOf_eq lk rfl
  subst e
  exact fnG_of lk hcd S many fun A outer s H vs Q E hg hr hsp => hb A outer s H vs Q E hg hr hsp
end
/-- the def x of one parameter a that is handed a lambda -/
structure LamD (K : PySem.W.Frag) (mg : Str → Option Value) (x a : Str) (st : Stmt) : Prop where
  ex : ∃ (g : Addr) (oc : Value) (od : Option Addr) (pg : Arguments) (dV kV doc pm : Value) (an : Option Addr) (cdv ct : Value) (osl : Array (Option Value)), mg x = some (.ref g) ∧ PySem.W.keepIn K (.ref g) = true ∧
    K.lookup g = some ⟨oc, od, .func (PySem.W.fnOf x x pg (defBody st) (defScope st) dV kV doc pm an cdv ct), osl⟩ ∧ PySem.W.codeIn K cdv x = true ∧ Binds K (PySem.W.fnOf x x pg (defBody st) (defScope st) dV kV doc pm an cdv ct) [a] []
theorem lamD_of {K : PySem.W.Frag} {mg : Str → Option Value} {x a : Str} {st : Stmt} {params : Arguments} {f : Addr} {fd : FuncData} (F : FunD K x x params (defBody st) (defScope st) [] [] f fd) (hm : mg x = some (.ref f)) (b : Binds K fd [a] []) : LamD K mg x a st := by
  obtain ⟨oc, od, dV, kV, doc, pm, an, cdv, ct, osl, rfl, lk, hcd, _, _⟩ := F.ex
  exact ⟨f, oc, od, params, dV, kV, doc, pm, an, cdv, ct, osl, hm, F.kp, lk, hcd, b⟩
/-- x(lambda: body) -/
theorem pe_lamX {X : Cx} {T : List (Addr × Str)} {TT : (XK → Hp → VK → Prop) → Hp → VK → Prop} {x a : Str} {st : Stmt} {c P : Addr} {k : Nat} {Ng : List Str} {params : Arguments} {body : Expr} {scope : Scope} {t : XK → TE} {p lpos pos : Pos} (D : LamD X.K X.mg x a st) (hg : Gl X x)
    (Sg : FnScope Ng [a] (defScope st)) (hNg : Ng[0]? = some a) (hva : Vis (defScope st) a) (hG : ∀ (g : Addr) (cdg : Value), LamX.GivesTo X Ng x (defScope st) g cdg (defBody st) a (X.env.qual ++ "<lambda>") TT)
    (TB : LamX.TabB X.base X.mg c P) (hcode : X.env.code = .ref c) (hmT : (P, X.env.qual ++ "<lambda>") ∈ T) (hu : ∀ p ∈ T, p.1 = P → p.2 = X.env.qual ++ "<lambda>") (hr : Room (k + 2) X.A) (L : LamX.LamS X.env.scope scope) (hdef : defaultsOf params X.env = ([], []))
    (hbind : ∀ (q : Str) (cl : List (Str × Addr)) (pm cv ctv : Value), bindArgs (PySem.W.kla_fn "<lambda>" q params body scope cl pm cv ctv) ⟨[], []⟩ = pure [])
    (hbody : ∀ (A : Around) (outer : List Env) (s : Shared) (H : Hp) (E : XK) (f c' : Addr), Room k (A.deeper (LamX.lamEnv X scope s.heap.objs.size f c')) → PE (LamX.lamCx X A outer s H E scope f c') body (t E))
    (hdb : (x == ("__debug__" : Str)) = false := by decide) (hd : (a == ("__debug__" : Str)) = false := by decide) (hcd : (a == ("__classdict__" : Str)) = false := by decide) :
    PE X (.Call (.Name x p) [.Lambda params body scope lpos] [] pos) (LamX.tLam T TT t) := by
  obtain ⟨g, oc, od, pg, dV, kV, doc, pm, an, cdv, ct, osl, hm, kp, lk, hcg, b⟩ := D.ex
  exact LamX.pe_lamcall hg hm kp lk hcg b Sg hNg hva (hG g cdv) TB hcode hmT hu hr L hdef hbind hbody hdb hd hcd
/-! ### what stays -/
/-- all but the list at p and the tables stays -/
def KeepN (p : Addr) (H H' : Hp) : Prop := ∀ b o, b ≠ p → H b = some o → (∀ ps, o ≠ .tbl ps) → H' b = some o
theorem KeepN.refl {p : Addr} {H : Hp} : KeepN p H H := fun _ _ _ h _ => h
theorem KeepN.trans {p : Addr} {H H1 H2 : Hp} (a : KeepN p H H1) (b : KeepN p H1 H2) : KeepN p H H2 := fun c o n h z => b c o n (a c o n h z) z
theorem KeepN.ofExt {p : Addr} {H H' : Hp} (e : LamX.ExtN H H') : KeepN p H H' := fun b o _ h z => e b o h z
theorem KeepN.same {p : Addr} {H H' : Hp} (e : Same H H') : KeepN p H H' := fun b o _ h _ => e b o h
theorem Keep.n {p : Addr} {H H' : Hp} (e : Keep p H H') : KeepN p H H' := fun b o n h _ => e b o n h
theorem ext_same {H H' : Hp} (e : Same H H') : LamX.ExtN H H' := LamX.ExtN.of e
theorem tabs_same {TS : List (Addr × Str)} {H H' : Hp} (t : LamX.Tabs TS H) (e : Same H H') : LamX.Tabs TS H' := t.ext e
theorem tabs_keep {TS : List (Addr × Str)} {p : Addr} {xs : List V} {H H' : Hp} (t : LamX.Tabs TS H) (hp : H p = some (.lst xs)) (e : Keep p H H') : LamX.Tabs TS H' := fun P hP => by
  obtain ⟨ps, h1, h2, h3⟩ := t P hP
  refine ⟨ps, e _ _ (fun z => ?_) h1, h2, fun pos cv hc => ?_⟩
  · rw [z, hp] at h1
    cases h1
  · obtain ⟨c, e1, e2⟩ := h3 pos cv hc
    refine ⟨c, e1, e _ _ (fun z => ?_) e2⟩
    rw [z, hp] at e2
    unfold LamX.CodeO at e2
    cases e2
end L2.RV
set_option Elab.async false
set_option linter.all false
set_option maxRecDepth 100000
set_option maxHeartbeats 4000000
/-! The hook with the text's dicts, and its tuples. -/
namespace L2.RV
open PySem PySem.Spec PyProof.Rows
/-- a dict of the top: its name, its keys -/
abbrev TabN : Type := Str × List Str
def obsRT (chk : PySem.W.Frag → Bool) (fn : List He.DefD) (ts : List TabN) (K : PySem.W.Frag) : He.AlT := (obsR chk fn K, ts.map fun t => He.dicW K (He.ga K t.1))
def valRT (fn : List He.DefD) (ts : List TabN) (w : World) : He.AlT := (He.valD fn, ts.map fun t => some (He.keysIn w.params t.2))
def SaysRT (chk : PySem.W.Frag → Bool) (fn : List He.DefD) (ts : List TabN) (w : World) (K : PySem.W.Frag) : Prop := obsRT chk fn ts K = valRT fn ts w
def obsRTG (n : Nat) (chk : PySem.W.Frag → Bool) (fn : List He.DefD) (ts : List TabN) (g : Addr → Option Obj) : He.AlT := obsRT chk fn ts (He.frG g (He.asD g n))
def hookRT (n : Nat) (chk : PySem.W.Frag → Bool) (fn : List He.DefD) (ts : List TabN) : PySem.W.Hook where
  α := He.AlT
  obs := fun s => obsRTG n chk fn ts s.heap.get?
  val := fun w => valRT fn ts w
  says := fun w h => ∃ K : PySem.W.Frag, K.In h ∧ SaysRT chk fn ts w K
  of := fun _ _ e => ⟨_, He.frG_in, e⟩
  keeps := fun _ _ _ ⟨K, hK, c⟩ k => ⟨K, PySem.W.Frag.In.keeps hK k, c⟩
theorem obsRTG_eq {n : Nat} {chk : PySem.W.Frag → Bool} {fn : List He.DefD} {ts : List TabN} {g : Addr → Option Obj} {s : Shared} (h : ∀ a, g a = s.heap.get? a) : obsRTG n chk fn ts g = (hookRT n chk fn ts).obs s := by
  obtain rfl : g = s.heap.get? := funext h
  rfl
section
variable {chk : PySem.W.Frag → Bool} {fn : List He.DefD} {ts : List TabN} {w : World} {K : PySem.W.Frag}
theorem SaysRT.d (c : SaysRT chk fn ts w K) : SaysR chk fn K := congrArg (fun z : He.AlT => z.1) c
theorem SaysRT.tab (c : SaysRT chk fn ts w K) (i : Nat) {t : TabN} (h : ts[i]? = some t := by rfl) : ∃ es n, KDict K w (He.ga K t.1) es n := by
  have e : ts.map (fun t => He.dicW K (He.ga K t.1)) = ts.map fun t => some (He.keysIn w.params t.2) := congrArg (fun z : He.AlT => z.2) c
  have e2 := congrArg (fun l => l[i]?) e
  simp only [List.getElem?_map, h, Option.map_some, Option.some.injEq] at e2
  exact He.dicW_ok e2
end
/-- values as written ones -/
def relsB (K : PySem.W.Frag) : List He.Dv → List Value → Bool
  | [], [] => true
  | d :: ds, u :: us => He.relB (d.v K) u && relsB K ds us
  | _, _ => false
theorem relsB_ok {K : PySem.W.Frag} : ∀ {ds : List He.Dv} {us : List Value}, relsB K ds us = true → Vals (ds.map (He.Dv.v K)) us
  | [], [], _ => .nil
  | d :: ds, u :: us, h => by
    obtain ⟨h1, h2⟩ := ba2 h
    exact .cons (He.relB_ok h1) (relsB_ok h2)
  | [], _ :: _, h => by cases h
  | _ :: _, [], h => by cases h
/-- the module's name x stands for this tuple -/
def tupB (K : PySem.W.Frag) (p : Str × List He.Dv) : Bool := match K.lookup (He.ga K p.1) with
  | some ⟨.type c, none, .seq its _, _⟩ => decide (c = "tuple") && (Nat.ble its.size 1000 && relsB K p.2 its.toList)
  | _ => false
theorem tupB_ok {K : PySem.W.Frag} {p : Str × List He.Dv} {H : Hp} (h : tupB K p = true) : SqT K H (He.ga K p.1) (p.2.map (He.Dv.v K)) := by
  unfold tupB at h
  split at h
  · rename_i c its n sl look
    obtain ⟨h1, h⟩ := ba2 h
    obtain ⟨h2, h3⟩ := ba2 h
    obtain rfl := of_decide_eq_true h1
    exact .inr ⟨_, its, n, look, rfl, rfl, Nat.le_trans (Nat.le_of_ble_eq_true h2) (by decide), relsB_ok h3⟩
  · cases h
theorem tupB_ty {K : PySem.W.Frag} {p : Str × List He.Dv} {H : Hp} (h : tupB K p = true) : tyV K "tuple" (.ref (He.ga K p.1)) H := by
  unfold tupB at h
  split at h
  · rename_i c its n sl look
    obtain ⟨h1, h⟩ := ba2 h
    obtain rfl := of_decide_eq_true h1
    exact .inr (.inl ⟨rfl, _, look, rfl, rfl⟩)
  · cases h
end L2.RV
set_option Elab.async false
set_option linter.all false
set_option maxRecDepth 100000
set_option maxHeartbeats 4000000
/-! The end of a law's proof where defs make lambdas: the tables of their code objects are empty at first, and grow. -/
namespace L2.RV
open PySem PySem.Spec PyProof.Rows
abbrev noTab : Obj := { cls := .none, data := .fields #[] }
/-- what is tracked at first: the tables of ts, and the script's list at a where it is not K's -/
def seed (ts : List Addr) (own : Bool) (a : Addr) (vs : List Value) (ns : List Int) : Hp := fun b =>
  if b ∈ ts then some (.tbl #[]) else if b = a ∧ own = true then some (.frz (listObj vs) (.lst (ns.map V.int))) else none
section
variable {ts : List Addr} {own : Bool} {a b : Addr} {vs : List Value} {ns : List Int}
theorem seed_tab (h : b ∈ ts) : seed ts own a vs ns b = some (.tbl #[]) := if_pos h
theorem seed_own (n : a ∉ ts) : seed ts true a vs ns a = some (.frz (listObj vs) (.lst (ns.map V.int))) := by
  unfold seed
  rw [if_neg n, if_pos ⟨rfl, rfl⟩]
theorem seed_case {u : HO} (h : seed ts own a vs ns b = some u) : (b ∈ ts ∧ u = .tbl #[]) ∨ (b ∉ ts ∧ b = a ∧ own = true ∧ u = .frz (listObj vs) (.lst (ns.map V.int))) := by
  unfold seed at h
  by_cases m : b ∈ ts
  · rw [if_pos m] at h
    exact .inl ⟨m, (Option.some.inj h).symm⟩
  · rw [if_neg m] at h
    by_cases c : b = a ∧ own = true
    · rw [if_pos c] at h
      exact .inr ⟨m, c.1, c.2, (Option.some.inj h).symm⟩
    · rw [if_neg c] at h
      cases h
end
theorem lawTG {P : Program} {w : World} {K : PySem.W.Frag} {mg mb : Str → Option Value} {CX : CXT} {k : Nat} {fa a : Addr} {tf : List (Addr × Addr)} {fd : FuncData} {x : Str} {sp : Sp} {s : Shared} {vs : List Value} {ns : List Int}
    (KX : K.In s.heap) (G : s.heap.Ns mainGlobals mg) (B : s.heap.Ns builtinsNs mb) (hB : ∀ x : Str, x ≠ "__name__" → mb x = bootBuiltins x) (lim : s.heap.NoLimit) (gens : s.gens = #[])
    (blank : ∀ t ∈ tf, s.heap.get? t.2 = some noTab) (out : ∀ t ∈ tf, K.lookup t.2 = none) (code : ∀ t ∈ tf, PySem.W.CodeHd s.heap t.1 t.2)
    (mod : ∃ (bm : Addr) (ob : Obj), mg "__builtins__" = some (.ref bm) ∧ bm ≠ builtinsNs ∧ s.heap.get? bm = some ob ∧ ob.cls = .type "module" ∧ ob.dict = some builtinsNs ∧ ob.data = .plain)
    (at_ : s.heap.get? a = some (listObj vs)) (areI : IntsAre vs ns) (few : ns.length ≤ sizeLine) (room : Room k callerA)
    (F : ∀ base : Heap, K.In base → base.Ns mainGlobals mg → (∀ t ∈ tf, LamX.TabB base mg t.1 t.2) → FnG P w K mg base CX k fa fd [x] sp) (bind : ∀ (s : Shared) (u : Value), BindsTo s fd ⟨[u], []⟩ [(x, u)])
    (hsp : ∀ H : Hp, (∀ t ∈ tf, H t.2 = some (.tbl #[])) → SqL K H a (ns.map V.int) → sp [.ref a] H (fun v _ => v = .bl true) fun _ _ _ => False)
    (no : ∀ H e s', CX [] H s (fun _ _ _ => False) e s' → False) :
    codeAny (model P w) callerA (.call (.ref fa) ⟨[.ref a], []⟩) (fun r s' => r = .ok (.ret (.bool true)) ∧ OldK s.heap s'.heap ∧ s'.os = s.os ∧ AllBare s'.gens) s := by
  have vals : Vals (ns.map V.int) vs := vals_ints areI
  have short : (ns.map V.int).length ≤ sizeLine := by rw [List.length_map]; exact few
  have size : vs.toArray.size ≤ sizeLine := by rw [List.size_toArray, areI.length]; exact few
  let T := tf.map (·.2)
  have inT : ∀ t ∈ tf, t.2 ∈ T := fun t m => List.mem_map_of_mem m
  have blankT : ∀ b ∈ T, s.heap.get? b = some noTab := fun b m => by
    obtain ⟨t, mt, rfl⟩ := List.mem_map.mp m
    exact blank t mt
  have outT : ∀ b ∈ T, K.lookup b = none := fun b m => by
    obtain ⟨t, mt, rfl⟩ := List.mem_map.mp m
    exact out t mt
  have aT : a ∉ T := fun m => by
    have z := at_.symm.trans (blankT a m)
    injection z with z
    injection z with _ _ z
    cases z
  have main : ∀ own : Bool, (own = true → K.lookup a = none) → SqL K (seed T own a vs ns) a (ns.map V.int) →
      codeAny (model P w) callerA (.call (.ref fa) ⟨[.ref a], []⟩) (fun r s' => r = .ok (.ret (.bool true)) ∧ OldK s.heap s'.heap ∧ s'.os = s.os ∧ AllBare s'.gens) s := by
    intro own free seq
    have stands : HOk P w (seed T own a vs ns) s.heap := by
      intro b u e
      rcases seed_case e with ⟨m, rfl⟩ | ⟨_, rfl, _, rfl⟩
      · exact blankT b m
      · exact ⟨at_, short, vs, _, vals, at_⟩
    have hidden : ∀ {b : Addr} {o : Obj}, s.heap.get? b = some o → o ≠ noTab → o ≠ listObj vs → (hidT s.heap (seed T own a vs ns)).get? b = some o := by
      intro b o e n1 n2
      apply hidT_get e
      cases q : seed T own a vs ns b with
      | none => rfl
      | some u =>
        rcases seed_case q with ⟨m, _⟩ | ⟨_, rfl, _⟩
        · exact absurd (Option.some.inj (e.symm.trans (blankT b m))) n1
        · exact absurd (Option.some.inj (e.symm.trans at_)) n2
    have spaces : ∀ {b : Addr} {m : Str → Option Value}, s.heap.Ns b m → (hidT s.heap (seed T own a vs ns)).Ns b m := by
      rintro b m ⟨o, es, ep, e, d, more⟩
      refine ⟨o, es, ep, hidden e (fun z => ?_) (fun z => ?_), d, more⟩ <;> rw [z] at d <;> cases d
    have inK : K.In (hidT s.heap (seed T own a vs ns)) := by
      intro b o e
      apply hidT_get (KX b o e)
      cases q : seed T own a vs ns b with
      | none => rfl
      | some u =>
        rcases seed_case q with ⟨m, _⟩ | ⟨_, rfl, y, _⟩
        · rw [outT b m] at e
          cases e
        · rw [free y] at e
          cases e
    have tabB : ∀ t ∈ tf, LamX.TabB (hidT s.heap (seed T own a vs ns)) mg t.1 t.2 := by
      intro t mt
      refine ⟨?_, ?_, ?_⟩
      · obtain ⟨o, us, f1, f2, f3, f4, f5, f6, f7, e, r1, r2, rest⟩ := code t mt
        refine ⟨o, us, f1, f2, f3, f4, f5, f6, f7, hidden e (fun z => ?_) (fun z => ?_), r1, r2, rest⟩
        · rw [z] at r1
          cases r1
        · rw [z] at r2
          cases r2
      · obtain ⟨bm, ob, m1, m2, m3, m4, m5, m6⟩ := mod
        refine ⟨bm, ob, m1, m2, fun z => ?_, fun z => ?_, hidden m3 (fun z => ?_) (fun z => ?_), m4, m5, m6⟩
        · obtain ⟨o, es, ep, e, d, _⟩ := G
          rw [z, e] at m3
          injection m3 with m3
          rw [m3, m6] at d
          cases d
        · rw [z, blank t mt] at m3
          injection m3 with m3
          rw [← m3] at m4
          cases m4
        · rw [z] at m4
          cases m4
        · rw [z] at m6
          cases m6
      · intro z
        obtain ⟨o, es, ep, e, d, _⟩ := G
        rw [z, blank t mt] at e
        injection e with e
        rw [← e] at d
        cases d
    have entry : Env0 P w K mg (hidT s.heap (seed T own a vs ns)) callerA [] s (seed T own a vs ns) := by
      refine ⟨rfl, ⟨inK, spaces G, ⟨mb, spaces B, hB⟩, ?_⟩, fun b o e => of_hidT e, Nat.le_of_eq (hidT_size _ _), trivial, fun b hb => ?_, stands, .of_eq gens⟩
      · obtain ⟨mc, h1, h2⟩ := lim
        exact ⟨mc, spaces h1, h2⟩
      · exact absurd (show b ∈ ([] : List Addr) from hb) (by simp)
    refine codeAny_mono ((F _ inK (spaces G) tabB).go callerA [] s _ ⟨[.ref a], []⟩ [.ref a] [.ref a] _ _ rfl room entry (bind s (.ref a)) (.cons rfl .nil) (hsp _ (fun t mt => seed_tab (inT t mt)) seq)) ?_
    intro r s' h
    match r, h with
    | .error e, h => exact (no _ e s' h).elim
    | .ok .next, h => exact h.elim
    | .ok .brk, h => exact h.elim
    | .ok .cont, h => exact h.elim
    | .ok (.ret u), h =>
      obtain ⟨v, H', os, bare, un, stands', rel, q⟩ := h
      have q' : v = .bl true := q
      subst q'
      obtain rfl : u = Value.bool true := rel
      have grown : ∀ b ∈ T, ∃ more : Array Value, s'.heap.get? b = some { cls := .none, data := .fields more } := by
        intro b m
        obtain ⟨more, z⟩ := un.tbls b #[] (seed_tab m)
        exact ⟨_, stands' b _ z⟩
      have stay : ∀ b o, b ∉ T → s.heap.get? b = some o → s'.heap.get? b = some o := by
        intro b o m e
        cases q : seed T own a vs ns b with
        | none => exact un.keep b o e q (fun z => absurd (show b ∈ ([] : List Addr) from z) (by simp)) (by simp)
        | some u =>
          rcases seed_case q with ⟨m', _⟩ | ⟨_, rfl, _, rfl⟩
          · exact absurd m' m
          · obtain ⟨e2, _⟩ := stands' b _ (un.frzs b _ _ q)
            rw [at_] at e
            cases e
            exact e2
      refine ⟨rfl, ⟨fun b o e => ?_, fun b o e => ?_⟩, os, bare⟩
      · by_cases m : b ∈ T
        · obtain ⟨t, mt, et⟩ := List.mem_map.mp m
          obtain ⟨more, z⟩ := grown b m
          have ob := Option.some.inj (e.symm.trans (blankT b m))
          have tab := (code t mt).tab (blank t mt)
          rw [show t.2 = b from et] at tab
          rw [ob]
          exact .inr (.inl ⟨tab.isCodeTable, rfl, #[], more, rfl, by rw [Array.empty_append]; exact z⟩)
        · exact .inl (stay b o m e)
      · by_cases m : b ∈ T
        · obtain ⟨more, z⟩ := grown b m
          exact ⟨_, z⟩
        · exact ⟨o, stay b o m e⟩
  cases old : K.lookup a with
  | some o =>
    have e := KX a o old
    rw [at_] at e
    cases e
    exact main false (fun z => nomatch z) (.inr ⟨_, vs.toArray, _, old, rfl, rfl, rfl, size, by simpa using vals⟩)
  | none => exact main true (fun _ => old) (.inl (.inr ⟨listObj vs, seed_own aT⟩))
theorem walkTG {l : PySem.W.OpenLaw} {n k : Nat} {q : Program} {loose : List Str} {XP : (Str → Option Value) → Heap → Prop} {YP : World → Heap → Prop} {d : DefRec} {CX : World → CXT} {x : Str}
    (hn : l.most = some n) (hn2 : n ≤ sizeLine) (hdf : d.params.defaults = []) (hr : Room k callerA)
    (F : ∀ (w : World) (mg : Str → Option Value) (fa : Addr) (h : Heap), YP w h → h.Ns mainGlobals mg → mg d.name = some (.ref fa) →
      ∃ (K : PySem.W.Frag) (fd : FuncData) (tf : List (Addr × Addr)) (sp : Sp), K.In h ∧ (∀ t ∈ tf, h.get? t.2 = some noTab) ∧ (∀ t ∈ tf, K.lookup t.2 = none) ∧ (∀ t ∈ tf, PySem.W.CodeHd h t.1 t.2) ∧ (∀ (s : Shared) (u : Value), BindsTo s fd ⟨[u], []⟩ [(x, u)]) ∧
        (∀ (H : Hp) (a : Addr) (ns : List Int), ns.length ≤ n → (∀ t ∈ tf, H t.2 = some (.tbl #[])) → SqL K H a (ns.map V.int) → sp [.ref a] H (fun v _ => v = .bl true) fun _ _ _ => False) ∧
        ∀ base : Heap, K.In base → base.Ns mainGlobals mg → (∀ t ∈ tf, LamX.TabB base mg t.1 t.2) → FnG l.prog w K mg base (CX w) k fa fd [x] sp)
    (no : ∀ (w : World) (H : Hp) (s : Shared) (e : Value) (s' : Shared), CX w [] H s (fun _ _ _ => False) e s' → False) :
    PySem.W.WalkO q loose XP YP l.row.toRowW d [] (fun f vs => PySem.call f vs) := by
  apply Att.attach_call hn hdf
  intro w s₀ s₁ mg mb fa o pm cd doc a vs ns G Y ho hd hcd hmg hobj hints hlen hg
  obtain ⟨K, fd, tf, sp, KX, blank, out, code, hb, hs, hF⟩ := F w mg fa _ Y G.T.g hmg
  exact lawTG KX G.T.g G.T.b G.T.builtins G.T.nolimit hg blank out code G.T.bmain hobj hints (Nat.le_trans hlen hn2) hr hF hb (fun H hH hS => hs H a ns hlen hH hS) fun H e s' => no w H s₁ e s'
/-- what the hook with tables tells is what the one without tells -/
theorem says_of {chk : PySem.W.Frag → Bool} {fn : List He.DefD} {ts : List TabN} {tf : List He.Defn} {w : World} {h : Heap} {K : PySem.W.Frag} (c : He.SaysX [] fn (ts.map fun t => ((fun K : PySem.W.Frag => He.ga K t.1), t.2)) tf chk w h K) : SaysRT chk fn ts w K := by
  have c1 := c.t
  have e1 : He.obsD [] fn K = He.valD fn := congrArg (fun z : He.AlT => z.1) c1
  have e2 := congrArg (fun z : He.AlT => z.2) c1
  have f1 : (fn.all fun d => d.ok K) = true := congrArg (fun z : He.AlD => z.1) e1
  have f2 : fn.map (fun d => He.fnW K d.at_) = fn.map He.DefD.val := congrArg (fun z : He.AlD => z.2) e1
  refine Prod.ext (Prod.ext ?_ f2) ?_
  · show (chk K && fn.all fun d => d.ok K) = true
    rw [c.more, f1]
    rfl
  · have e2' : (ts.map fun t => ((fun K : PySem.W.Frag => He.ga K t.1), t.2)).map (fun t => He.dicW K (t.1 K)) = (ts.map fun t => ((fun K : PySem.W.Frag => He.ga K t.1), t.2)).map fun t => some (He.keysIn w.params t.2) := e2
    rw [List.map_map, List.map_map] at e2'
    exact e2'
end L2.RV
set_option Elab.async false
set_option linter.all false
set_option maxRecDepth 100000
set_option maxHeartbeats 4000000
/-! Own classes' special methods: o[i], x in o, a | b, ==, !=, bool(o), str(o). -/
namespace L2.RV
open PySem PySem.Spec PyProof.Rows
/-- C's special method m, with its promise -/
structure MethS (CX : CXT) (P : Program) (w : World) (K : PySem.W.Frag) (mg : Str → Option Value) (base : Heap) (C : Addr) (m : Str) (k : Nat) (ps : List Str) (sp : Sp) : Prop where
  ex : ∃ f fd, Meth K C m f ∧ PySem.W.fnIn K f = true ∧ Binds K fd ps [] ∧ FnOk P w K mg base CX k f fd ps sp
/-- the two values, the first an instance of C, are handed to an own def -/
def rOwn (C : Addr) (sp : Sp) (E : XK) : R2 := fun x y H Q => ∃ a dx fs, x = .ref a ∧ H a = some (.ins C dx fs) ∧ sp [x, y] H Q E
section
variable {X : Cx} {CX : CXT} {C : Addr} {k : Nat} {ps : List Str} {sp : Sp} {E : XK} {pins : List (Addr × Obj)} {σ : L2.St} {H : Hp} {s : Shared} {Q : VK}
theorem run_at {A' : Around} {f : Addr} {fd : FuncData} {us : List Value} {vs : List V} (F : FnOk X.prog X.w X.K X.mg X.base CX k f fd ps sp) (b : Binds X.K fd ps []) (hr : Room k A') (fr : A'.frames = X.A.frames) (hx : Passes CX X E) (I : Inv X pins σ H s) (r : Vals vs us) (h : sp vs H Q E) :
    wpAny (model X.prog X.w) A' (call (.ref f) us) (EP X pins σ Q) X.xe s := by
  have e0 : Env0 X.prog X.w X.K X.mg X.base A' X.stack s H := by
    have e := I.env0
    exact ⟨fr.trans e.frames, e.mod, e.bs, e.bsz, e.funs, e.frf, e.hok, e.bare⟩
  have hl : us.length = ps.length := by rw [← r.length]; exact F.len _ _ _ _ h
  have hb := b s us I.kIn (by rw [List.append_nil]; exact hl)
  rw [List.append_nil] at hb
  refine wpAny_call (codeAny_mono (F.run A' X.stack s H ⟨us, []⟩ us vs Q E hr e0 hb r h) fun r s' hq => ?_)
  cases r with
  | error e => exact hx pins σ H s e s' I hq
  | ok fl =>
    cases fl with
    | ret w => exact I.after hq
    | next => exact False.elim hq
    | brk => exact False.elim hq
    | cont => exact False.elim hq
theorem ins_at {a dx : Addr} {fs : List (Str × V)} (I : Inv X pins σ H s) (e : H a = some (.ins C dx fs)) : ∃ ox od, PySem.W.InstAt s.heap a ox C od := by
  obtain ⟨mA, O, _⟩ := ins_get I.hok e
  obtain ⟨od, J, _⟩ := O.look
  exact ⟨_, _, J⟩
/-- o[i] -/
theorem pe_ixO {a b : Expr} {pos : Pos} {ta tb : TE} (D : MethS CX X.prog X.w X.K X.mg X.base C "__getitem__" k ps sp) (hr : Room (k + 1) X.A) (hx : Passes CX X E) (ha : PE X a ta) (hb : PE X b tb)
    (hsl : ∀ (x : Addr) (i : Value), subscripted b true (.ref x) i = runValue (.builtin "lifetime.subscript" ⟨[.ref x, i], []⟩) := by intro _ _; rfl) : PE X (.Subscript a b pos) (tOp (rOwn C sp E) ta tb) := by
  obtain ⟨f, fd, M, fi, bd, F⟩ := D.ex
  refine ⟨fun pins s σ H Q I h => ?_⟩
  refine Subscript_ (binT ha hb I h fun v u s2 x y H2 I2 rx ry q => ?_)
  obtain ⟨a, dx, fs, rfl, e, q⟩ := q
  cases rx
  obtain ⟨ox, od, J⟩ := ins_at I2 e
  obtain ⟨m, hF⟩ := I2.fr
  exact PySem.W.sub_K hF I2.ok.mod.kin J M.at_ fi M.fn (run_at (vs := [.ref a, y]) F bd hr.in1 rfl hx I2 (.cons rfl (.cons ry .nil)) q) (hsl _ _)
/-- x in o -/
def rInO (C : Addr) (sp : Sp) (E : XK) (neg : Bool) : R2 := fun x y H Q => ∃ a dx fs, y = .ref a ∧ H a = some (.ins C dx fs) ∧ sp [y, x] H (fun r H' => ∃ b, r = .bl b ∧ Q (.bl (neg ^^ b)) H') E
theorem op_inO (D : MethS CX X.prog X.w X.K X.mg X.base C "__contains__" k ps sp) (hr : Room k X.A) (hx : Passes CX X E) : OpR X (compareOp .In) (rInO C sp E false) := by
  obtain ⟨f, fd, M, fi, bd, F⟩ := D.ex
  intro pins s σ H x y v u Q I rx ry h
  obtain ⟨a, dx, fs, rfl, e, q⟩ := h
  cases ry
  obtain ⟨ox, od, J⟩ := ins_at I e
  obtain ⟨m, hF⟩ := I.fr
  refine PySem.W.in_K hF I.ok.mod.kin J M.at_ M.fn (thn (run_at (vs := [.ref a, x]) F bd hr rfl hx I (.cons rfl (.cons rx .nil)) q) ?_)
  rintro r s1 ⟨z, H1, I1, rz, b, rfl, q1⟩
  cases rz
  exact wpAny_truthy_bool ⟨.bl b, H1, I1, rfl, by simpa using q1⟩
theorem op_notInO (D : MethS CX X.prog X.w X.K X.mg X.base C "__contains__" k ps sp) (hr : Room k X.A) (hx : Passes CX X E) : OpR X (compareOp .NotIn) (rInO C sp E true) := by
  obtain ⟨f, fd, M, fi, bd, F⟩ := D.ex
  intro pins s σ H x y v u Q I rx ry h
  obtain ⟨a, dx, fs, rfl, e, q⟩ := h
  cases ry
  obtain ⟨ox, od, J⟩ := ins_at I e
  obtain ⟨m, hF⟩ := I.fr
  refine PySem.W.notIn_K hF I.ok.mod.kin J M.at_ M.fn (thn (run_at (vs := [.ref a, x]) F bd hr rfl hx I (.cons rfl (.cons rx .nil)) q) ?_)
  rintro r s1 ⟨z, H1, I1, rz, b, rfl, q1⟩
  cases rz
  exact wpAny_truthy_bool ⟨.bl (!b), H1, I1, rfl, by simpa using q1⟩
theorem back_of {v : V} {u : Value} {H : Hp} (I : Inv X pins σ H s) (r : RelV v u) (q : Q v H) : PySem.W.CmpBack (EP X pins σ Q) u s := by
  have z : EP X pins σ Q u s := ⟨v, H, I, r, q⟩
  cases u with
  | notImplemented =>
    cases v <;> first | (obtain ⟨t, y⟩ := r; cases y; done) | (cases r; done)
  | _ => exact z
/-- a op b, both instances of C -/
def rBinO (C : Addr) (sp : Sp) (E : XK) : R2 := fun x y H Q => ∃ a dx fs b dy gs, x = .ref a ∧ y = .ref b ∧ H a = some (.ins C dx fs) ∧ H b = some (.ins C dy gs) ∧ sp [x, y] H Q E
theorem op_binO {op : Operator} (D : MethS CX X.prog X.w X.K X.mg X.base C (PySem.dunder op.info.2) k ps sp) (hc : PySem.W.selfFirst X.K C = true) (hr : Room k X.A) (hx : Passes CX X E) : OpR X (binaryOp op) (rBinO C sp E) := by
  obtain ⟨f, fd, M, fi, bd, F⟩ := D.ex
  intro pins s σ H x y v u Q I rx ry h
  obtain ⟨a, dx, fs, b, dy, gs, rfl, rfl, e, e', q⟩ := h
  cases rx
  cases ry
  obtain ⟨ox, od, J⟩ := ins_at I e
  obtain ⟨oy, od', J'⟩ := ins_at I e'
  obtain ⟨m, hF⟩ := I.fr
  refine PySem.W.binop_K hF I.ok.mod.kin J J'.type hc M.at_ M.fn (thn (run_at (vs := [.ref a, .ref b]) F bd hr rfl hx I (.cons rfl (.cons rfl .nil)) q) ?_)
  rintro r s1 ⟨z, H1, I1, rz, q1⟩
  exact back_of I1 rz q1
/-- a == y, y of any type -/
def rEqO (K : PySem.W.Frag) (C : Addr) (sp : Sp) (E : XK) : R2 := fun x y H Q => ∃ a dx fs t, x = .ref a ∧ H a = some (.ins C dx fs) ∧ TyX K H y t ∧ PySem.W.notFirst K C t = true ∧ sp [x, y] H Q E
theorem op_eqO (D : MethS CX X.prog X.w X.K X.mg X.base C "__eq__" k ps sp) (hr : Room k X.A) (hx : Passes CX X E) : OpR X (compareOp .Eq) (rEqO X.K C sp E) := by
  obtain ⟨f, fd, M, fi, bd, F⟩ := D.ex
  intro pins s σ H x y v u Q I rx ry h
  obtain ⟨a, dx, fs, t, rfl, e, ty, nf, q⟩ := h
  cases rx
  obtain ⟨ox, od, J⟩ := ins_at I e
  obtain ⟨m, hF⟩ := I.fr
  obtain ⟨P, kx, hP, _⟩ := kit_of I ry ty
  show wpAny (model X.prog X.w) X.A (richCompare .Eq (.ref a) u) (EP X pins σ Q) X.xe s
  refine PySem.W.cmp_K (op := .Eq) hr.units0 hF I.ok.mod.kin J (kx.ty _ _ I.kIn hP) nf M.at_ M.fn (thn (run_at (vs := [.ref a, y]) F bd hr rfl hx I (.cons rfl (.cons ry .nil)) q) ?_)
  rintro r s1 ⟨z, H1, I1, rz, q1⟩
  exact back_of I1 rz q1
end
/-! ### != by an own == -/
section
variable {prog : Program} {w : World} {A : Around} {E : Value → Shared → Prop} {s : Shared} {K : PySem.W.Frag} {x C f : Addr} {ox : Obj} {od : Option Obj} {u t : Value}
open Builtin in
theorem ne_entry {R : Fin → Shared → Prop} (X : K.In s.heap) (I : PySem.W.InstAt s.heap x ox C od) (hs : PySem.W.findIn K (.ref C) "__eq__" = some (some (.ref f))) (hf : PySem.W.isFn K (.ref f) = true) (hu : A.units < cLine)
    (h : wpAny (model prog w) A (call (.ref f) [.ref x, u]) (fun v s' => ∃ b, v = .bool b ∧ R (.done (.ret (.bool (!b)))) s') E s) : wpAny (model prog w) A (Builtin.«object.__ne__» ⟨[.ref x, u], []⟩) R E s := by
  unfold Builtin.«object.__ne__»
  repeat (first
    | with_reducible refine wpAny_cRoomFor hu ?_
    | (refine wpAny_bind (m := callSpecialIfBound? (.ref x) (Str.ofString "__eq__") [u])
        (PySem.W.ifBound_K X I hs hf (wpAny_mono h (fun r s' hr => by
          obtain ⟨b, rfl, q⟩ := hr
          repeat (first | exact q | exact wpAny_pure q | exact wpAny_truthy_bool q | (refine wpAny_bind (m := truthy (.bool _)) (wpAny_truthy_bool ?_)) | wp_step)) fun _ _ z => z)))
    | wp_step)
theorem ne_bound {R : Option Value → Shared → Prop} (X : K.In s.heap) (I : PySem.W.InstAt s.heap x ox C od) (hn : PySem.W.findIn K (.ref C) "__ne__" = some (some (.builtin "object.__ne__")))
    (h : wpAny (model prog w) A (call (.builtin "object.__ne__") [.ref x, u]) (fun v => R (some v)) E s) : wpAny (model prog w) A (callSpecialIfBound? (.ref x) "__ne__" [u]) R E s := by
  have last : wpAny (model prog w) A (call (.builtin "object.__ne__") ([.ref x] ++ [u]) >>= fun v => pure (some v)) R E s := wpAny_bind (wpAny_mono h (fun _ _ z => wpAny_pure z) fun _ _ z => z)
  have bound := F.cmp_object.ne.bind (.ref x)
  simp only [callSpecialIfBound?, bindSpecialIfBound?]
  refine wpAny_holding (wpAny_bind (wpAny_bind (wpAny_bind (I.type.here ((PySem.W.looks_findIn X hn).here ?_)))))
  refine wpAny_bind (wpAny_askSetting (wpAny_ite ?_))
  split
  · exact wpAny_bind (wpAny_of_eq bound (wpAny_pure (by exact last)))
  · exact wpAny_tryCatch (wpAny_bind (wpAny_of_eq bound (wpAny_pure (by exact last))))
theorem ne_own {R : Value → Shared → Prop} (X : K.In s.heap) (I : PySem.W.InstAt s.heap x ox C od) (ty : PySem.W.Looks (model prog w) s.heap (typeOf u) t) (nf : PySem.W.notFirst K C t = true) (hm : PySem.W.mroIn K C (.type "object") = some true)
    (hn : PySem.W.findIn K (.ref C) "__ne__" = some (some (.builtin "object.__ne__"))) (hs : PySem.W.findIn K (.ref C) "__eq__" = some (some (.ref f))) (hf : PySem.W.isFn K (.ref f) = true) (hu : A.units + 1 < cLine)
    (h : wpAny (model prog w) A.in1 (call (.ref f) [.ref x, u]) (fun v s' => ∃ b, v = .bool b ∧ R (.bool (!b)) s') E s) : wpAny (model prog w) A (richCompare .NotEq (.ref x) u) R E s := by
  have one : wpAny (model prog w) A (tryCompare (.ref x) "__ne__" u) (fun r s' => ∃ b, r = some (.bool b) ∧ R (.bool b) s') E s := by
    unfold tryCompare
    refine wpAny_bind (ne_bound X I hn (wpAny_call (codeAny_call_builtin F.cmp_object.ne.plain F.cmpEntry_ne (PySem.W.check_slot F.cmpKind_ne F.cmpSplit_ne (I.type.andThen (PySem.W.looks_mroIn X hm)) (F.cmpArgs_ne _ _) (ne_entry (A := A.in1) X I hs hf hu (wpAny_mono h (fun v s' z => ?_) fun _ _ z => z))))))
    obtain ⟨b, rfl, q⟩ := z
    first | exact ⟨b, rfl, wpAny_pure ⟨!b, rfl, q⟩⟩ | exact ⟨b, rfl, _, rfl, q⟩
  unfold richCompare
  simp only [oneThing_ref, cmpInfo_NotEq]
  refine wpAny_holding (wpAny_bind (wpAny_cRoomFor (Nat.lt_of_succ_lt hu) ?_))
  refine wpAny_bind (I.type.here (wpAny_bind (ty.here ?_)))
  have rest : wpAny (model prog w) A (tryCompare (.ref x) "__ne__" u) (fun r s' => ∃ b, r = some (.bool b) ∧ R (.bool b) s') E s := one
  split
  · rename_i q
    have e : PySem.W.subIn K t (.ref C) = some false := by
      rcases Bool.or_eq_true_iff.mp nf with e | e
      · rw [beq_iff_eq.mp e] at q
        simp at q
      · exact beq_iff_eq.mp e
    refine wpAny_bind ((PySem.W.looks_subIn X e).here ?_)
    simp only [Bool.false_eq_true, if_false]
    refine wpAny_bind (wpAny_mono rest (fun r s' z => ?_) fun _ _ z => z)
    obtain ⟨b, rfl, q⟩ := z
    exact wpAny_pure q
  · refine wpAny_bind (wpAny_pure ?_)
    simp only [Bool.false_eq_true, if_false]
    refine wpAny_bind (wpAny_mono rest (fun r s' z => ?_) fun _ _ z => z)
    obtain ⟨b, rfl, q⟩ := z
    exact wpAny_pure q
end
section
variable {X : Cx} {CX : CXT} {C : Addr} {k : Nat} {ps : List Str} {sp : Sp} {E : XK}
def rNeO (K : PySem.W.Frag) (C : Addr) (sp : Sp) (E : XK) : R2 := fun x y H Q => ∃ a dx fs t, x = .ref a ∧ H a = some (.ins C dx fs) ∧ TyX K H y t ∧ PySem.W.notFirst K C t = true ∧ sp [x, y] H (fun r H' => ∃ b, r = .bl b ∧ Q (.bl (!b)) H') E
theorem op_neO (D : MethS CX X.prog X.w X.K X.mg X.base C "__eq__" k ps sp) (hm : PySem.W.mroIn X.K C (.type "object") = some true) (hn : PySem.W.findIn X.K (.ref C) "__ne__" = some (some (.builtin "object.__ne__"))) (hr : Room (k + 1) X.A) (hx : Passes CX X E) : OpR X (compareOp .NotEq) (rNeO X.K C sp E) := by
  obtain ⟨f, fd, M, fi, bd, F⟩ := D.ex
  intro pins s σ H x y v u Q I rx ry h
  obtain ⟨a, dx, fs, t, rfl, e, ty, nf, q⟩ := h
  cases rx
  obtain ⟨ox, od, J⟩ := ins_at I e
  obtain ⟨P, kx, hP, _⟩ := kit_of I ry ty
  show wpAny (model X.prog X.w) X.A (richCompare .NotEq (.ref a) u) (EP X pins σ Q) X.xe s
  refine ne_own I.kIn J (kx.ty _ _ I.kIn hP) nf hm hn M.at_ M.fn (by have := hr.units; omega) (thn (run_at (vs := [.ref a, y]) F bd hr.in1 rfl hx I (.cons rfl (.cons ry .nil)) q) ?_)
  rintro r s1 ⟨z, H1, I1, rz, b, rfl, q1⟩
  cases rz
  exact ⟨b, rfl, .bl (!b), H1, I1, rfl, q1⟩
/-- bool(o), str(o) -/
def rSelf (C : Addr) (sp : Sp) (E : XK) (W : VK → VK) : List V → Hp → VK → Prop := fun xs H Q => ∃ a dx fs, xs = [.ref a] ∧ H a = some (.ins C dx fs) ∧ sp [.ref a] H (W Q) E
theorem call_strO (D : MethS CX X.prog X.w X.K X.mg X.base C "__str__" k ps sp) (hr : Room (k + 2) X.A) (hx : Passes CX X E) : CallR X (.type "str") (rSelf C sp E fun Q r H' => ∃ y, r = .str y ∧ Q r H') := by
  obtain ⟨f, fd, M, fi, bd, F⟩ := D.ex
  intro pins s σ H xs us Q I r h
  obtain ⟨a, dx, fs, rfl, e, q⟩ := h
  obtain ⟨u, rfl, ru⟩ := vals1 r
  cases ru
  obtain ⟨ox, od, J⟩ := ins_at I e
  refine PySem.W.kso_call hr.in1.in1.units0 I.kIn J M.at_ M.fn (thn (run_at (vs := [.ref a]) F bd hr.in1.in1 rfl hx I (.cons rfl .nil) q) ?_)
  rintro r s1 ⟨z, H1, I1, rz, y, rfl, q1⟩
  obtain ⟨t, rfl⟩ := rz
  exact ⟨.str y, H1, I1, ⟨t, rfl⟩, q1⟩
end
end L2.RV
set_option Elab.async false
set_option linter.all false
set_option maxRecDepth 100000
set_option maxHeartbeats 4000000
/-! bool(o) by an own __bool__; C.m(..) of a staticmethod. -/
namespace L2.RV
open PySem PySem.Spec PyProof.Rows
section
variable {prog : Program} {w : World} {A : Around} {E : Value → Shared → Prop} {s : Shared}
theorem bool_new_any {x : Value} {R : Fin → Shared → Prop} (h : wpAny (model prog w) A (truthy x) (fun b s' => R (.done (.ret (.bool b))) s') E s) : wpAny (model prog w) A (Builtin.«bool.__new__» ⟨[.type "bool", x], []⟩) R E s := by
  have sub := F.conv_sub_bool
  unfold Builtin.«bool.__new__»
  repeat (first
    | (refine wpAny_bind (m := truthy x) (wpAny_mono h (fun b s' q => by repeat (first | exact q | exact wpAny_pure q | wp_step)) fun _ _ z => z))
    | wp_step)
theorem bool_any {x : Value} {Q : Value → Shared → Prop} (h : wpAny (model prog w) A.in1.in1 (truthy x) (fun b s' => Q (.bool b) s') E s) : wpAny (model prog w) A (call (.type "bool") [x]) Q E s := by
  refine callType_codes (T := "bool") (Bi := Builtin.«object.__init__») (Q₁ := fun v s' => ∃ b, v = .bool b ∧ Q v s') F.called_bool (F.typeCall_bool_1 x) F.entry_object_init ?_ ?_
  · refine codeAny_call_builtin (id := "bool.__new__") (by decide +kernel) F.entry_bool_new (wpAny_of_eq (F.newCall_bool_1 x) (bool_new_any (wpAny_mono h (fun b s' q => ?_) fun _ _ z => z)))
    exact ⟨b, rfl, q⟩
  · rintro v s' ⟨b, rfl, q⟩
    exact ⟨rfl, F.args_object_init_2 _ _, object_init_meets F.called_bool.init.lookup F.called_bool.made (by decide) prog w A.in1 _ s' ⟨rfl, rfl, q⟩⟩
end
section
variable {X : Cx} {CX : CXT} {C p g : Addr} {k : Nat} {ps : List Str} {sp : Sp} {E : XK} {m p1 : Str} {mc : Value} {o e : Expr} {es : List Expr} {ta te : TE} {t : TA} {apos pos kp : Pos} {pl : Sem Bool}
theorem call_boolO (D : MethS CX X.prog X.w X.K X.mg X.base C "__bool__" k ps sp) (hr : Room (k + 2) X.A) (hx : Passes CX X E) : CallR X (.type "bool") (rSelf C sp E fun Q r H' => ∃ b, r = .bl b ∧ Q r H') := by
  obtain ⟨f, fd, M, fi, bd, F⟩ := D.ex
  intro pins s σ H xs us Q I r h
  obtain ⟨a, dx, fs, rfl, e, q⟩ := h
  obtain ⟨u, rfl, ru⟩ := vals1 r
  cases ru
  obtain ⟨ox, od, J⟩ := ins_at I e
  obtain ⟨n, hF⟩ := I.fr
  refine bool_any (PySem.W.truthy_K hF I.ok.mod.kin J M.at_ M.fn (thn (run_at (vs := [.ref a]) F bd hr.in1.in1 rfl hx I (.cons rfl .nil) q) ?_))
  rintro r s1 ⟨z, H1, I1, rz, b, rfl, q1⟩
  cases rz
  exact ⟨.bl b, H1, I1, rfl, q1⟩
/-- C.m is a staticmethod: its record at p, its def at g -/
structure SMet (K : PySem.W.Frag) (C : Addr) (mc : Value) (m : Str) (p g : Addr) : Prop where
  at_ : PySem.W.findCls K (.ref C) mc m = some (.get (.builtin "staticmethod.__get__") (.ref p) .none (.ref C))
  rc : ∃ rest, PySem.W.recIn K p "staticmethod" = some (.ref g :: rest)
  kp : PySem.W.keepIn K (.ref g) = true
/-- C's staticmethod m, with its promise; with one parameter it may be handed by its name -/
structure SMethX (CX : CXT) (P : Program) (w : World) (K : PySem.W.Frag) (mg : Str → Option Value) (base : Heap) (C : Addr) (m : Str) (k : Nat) (ps : List Str) (sp : Sp) : Prop where
  ex : ∃ mc p g fd, ClX.CRead K C mc ∧ SMet K C mc m p g ∧ Binds K fd ps [] ∧ FnOk P w K mg base CX k g fd ps sp ∧ ∀ q, ps = [q] → ∀ (s : Shared) (u : Value), BindsTo s fd ⟨[], [(q, u)]⟩ [(q, u)]
def tSMeth (C : Addr) (sp : Sp) (E : XK) (ta : TE) (t : TA) : TE := fun σ H Q => ta σ H fun x H1 => x = .ref C ∧ t σ H1 fun vs H2 => sp vs H2 Q E
theorem getsm {pins : List (Addr × Obj)} {σ : L2.St} {H : Hp} {s : Shared} {A : Around} {E' : Value → Shared → Prop} {Q : Value × List Value → Shared → Prop} (I : Inv X pins σ H s) (r : ClX.CRead X.K C mc) (c : SMet X.K C mc m p g) (h : ∀ s', Inv X pins σ H s' → Q (.ref g, []) s') :
    wpAny (model X.prog X.w) A (getMethod (.ref C) m pl) Q E' s := by
  obtain ⟨rest, hp⟩ := c.rc
  refine PySem.W.method_cls I.kIn r.ga (PySem.W.cls_bind I.kIn r.rd c.at_ (wpAny_call (PySem.W.sm_get (s := { s with toks := s.toks + 1 }) I.kIn hp (PySem.W.handed_on rfl (h _ (I.tok _))))))
theorem pe_smeth (D : SMethX CX X.prog X.w X.K X.mg X.base C m k ps sp) (hr : Room k X.A) (hx : Passes CX X E) (ho : PE X o ta) (ha : PA X (e :: es) t)
    (hst : starEach (e :: es) X.env = (false, eval e X.env) :: starEach es X.env := by rfl) (hpl : (backTo pos (starEach es X.env)).any (·.1) = false := by rfl)
    (ht : eval (.Call (.Attribute o m apos) (e :: es) [] pos) X.env = (do
      let ov ← eval o X.env
      standAt apos.atName
      let (f, first) ← holding [ov] (getMethod ov m pl)
      callWith pos f first (backTo pos (starEach (e :: es) X.env)) (backToKw pos (keywordEach [] X.env))) := by rfl) :
    PE X (.Call (.Attribute o m apos) (e :: es) [] pos) (tSMeth C sp E ta t) := by
  obtain ⟨mc, p, g, fd, r, c, bd, F, _⟩ := D.ex
  refine ⟨fun pins s σ H Q I h => ?_⟩
  refine PySem.W.methodCall_KW (pl := pl) (thn (ho.run pins s σ H _ I h) fun u s1 ⟨x, H1, I1, rx, ex, q⟩ => ?_) ht
  subst ex
  cases rx
  refine getsm I1 r c fun s2 I2 => ?_
  refine PySem.W.callWith_K (h₀ := X.base) I2.ok.mod.kin c.kp (thn (ha.run pos pins s2 σ H1 _ I2 q) fun us s3 ⟨vs, H2, I3, rv, q2⟩ => ⟨I3.kIn, ?_⟩) hst hpl
  exact run_at F bd hr rfl hx I3 rv q2
/-- C.m(p = e) -/
theorem pe_smethK (D : SMethX CX X.prog X.w X.K X.mg X.base C m k [p1] sp) (hr : Room k X.A) (hx : Passes CX X E) (ho : PE X o ta) (ha : PE X e te)
    (hall : (backToKw pos (keywordEach [⟨some p1, e, kp⟩] X.env)).all (·.1.isSome) = true := by rfl) (hks : (backToKw pos (keywordEach [⟨some p1, e, kp⟩] X.env)).filterMap (·.1) = [p1] := by rfl)
    (hpl : ((backTo pos (starEach [] X.env)).any (·.1) || (backToKw pos (keywordEach [⟨some p1, e, kp⟩] X.env)).any (·.1.isNone)) = false := by rfl)
    (ht : eval (.Call (.Attribute o m apos) [] [⟨some p1, e, kp⟩] pos) X.env = (do
      let ov ← eval o X.env
      standAt apos.atName
      let (f, first) ← holding [ov] (getMethod ov m pl)
      callWith pos f first (backTo pos (starEach [] X.env)) (backToKw pos (keywordEach [⟨some p1, e, kp⟩] X.env))) := by rfl) :
    PE X (.Call (.Attribute o m apos) [] [⟨some p1, e, kp⟩] pos) (tSMeth C sp E ta (tCons te tNil)) := by
  obtain ⟨mc, p, g, fd, r, c, bd, F, kw⟩ := D.ex
  refine ⟨fun pins s σ H Q I h => ?_⟩
  refine PySem.W.methodCall_KW (pl := pl) (thn (ho.run pins s σ H _ I h) fun u s1 ⟨x, H1, I1, rx, ex, q⟩ => ?_) ht
  subst ex
  cases rx
  refine getsm I1 r c fun s2 I2 => ?_
  refine PySem.W.callWith_KW0 (h₀ := X.base) I2.ok.mod.kin c.kp hall ?_ hpl
  refine kws1 (R := fun v H2 => sp [v] H2 Q E) ha I2 q (fun u s3 v H2 I3 r' q2 => ⟨I3.kIn, ?_⟩)
  rw [hks]
  refine wpAny_call (codeAny_mono (F.run X.A X.stack s3 H2 ⟨[], [(p1, u)]⟩ [u] [v] Q E hr I3.env0 (kw p1 rfl s3 u) (.cons r' .nil) q2) fun r'' s' hq => ?_)
  cases r'' with
  | error e => exact hx pins σ H2 s3 e s' I3 hq
  | ok fl =>
    cases fl with
    | ret u => exact I3.after hq
    | next => exact False.elim hq
    | brk => exact False.elim hq
    | cont => exact False.elim hq
end
end L2.RV
set_option Elab.async false
set_option linter.all false
set_option maxRecDepth 100000
set_option maxHeartbeats 4000000
/-! One hook for a text with classes, staticmethods, dicts and tuples of the top, lambdas. -/
namespace L2.RV
open PySem PySem.Spec PyProof.Rows
abbrev AlA : Type := He.AlD × List (Option (List (Option (Str × Int))))
def obsRA (chk : PySem.W.Frag → Bool) (fn : List He5.DefA) (ts : List TabN) (more : Bool) (K : PySem.W.Frag) : AlA := ((more && (chk K && fn.all fun d => d.ok K), fn.map fun d => He5.fnA K (d.at_ K)), ts.map fun t => He.dicW K (He.ga K t.1))
def valRA (fn : List He5.DefA) (ts : List TabN) (w : World) : AlA := ((true, fn.map He5.DefA.val), ts.map fun t => some (He.keysIn w.params t.2))
/-- what an object names, a function's and a code's side tables aside -/
def refsK (o : Obj) : List Addr := He.refV o.cls ++ match o.data with
  | .func fd => He.refV fd.code ++ He.refV fd.defaults ++ He.refV fd.kwdefaults ++ fd.closure.map (·.2)
  | .fields vs => (match o.cls with
    | .type "code" => []
    | _ => vs.toList.flatMap He.refV) ++ o.dict.toList
  | .cell (some v) => He.refV v
  | .cell none => []
  | _ => He.refsO o ++ o.dict.toList
/-- what is reached from the stack, each once: those met are the bits of m; what is on the stack twice costs a step -/
def reachK (g : Addr → Option Obj) : Nat → List Addr → Nat → List Addr → List Addr
  | 0, _, _, acc => acc
  | _ + 1, [], _, acc => acc
  | f + 1, a :: st, m, acc => match Nat.beq (Nat.land (Nat.shiftRight m a) 1) 1 with
    | true => reachK g f st m acc
    | false => reachK g f ((match g a with
      | some o => refsK o
      | none => []) ++ st) (Nat.lor m (Nat.shiftLeft 1 a)) (a :: acc)
def fragA (g : Addr → Option Obj) (n : Nat) : PySem.W.Frag := He.frT g (mainGlobals :: cStatics :: reachK g n [mainGlobals] 0 [])
def obsRAG (n : Nat) (chk : PySem.W.Frag → Bool) (fn : List He5.DefA) (ts : List TabN) (tf : List He.Defn) (g : Addr → Option Obj) : AlA := obsRA chk fn ts (He.tabsB g tf (fragA g n)) (fragA g n)
/-- what is told of the heap behind the top -/
structure SaysRA (chk : PySem.W.Frag → Bool) (fn : List He5.DefA) (ts : List TabN) (tf : List He.Defn) (w : World) (h : Heap) (K : PySem.W.Frag) : Prop where
  all : obsRA chk fn ts true K = valRA fn ts w
  hd : ∀ p ∈ tf, PySem.W.codeHdIn K (He.cT K p).1 (He.cT K p).2 = true
  out : ∀ p ∈ tf, K.lookup (He.cT K p).2 = none
  empty : ∀ p ∈ tf, h.get? (He.cT K p).2 = some noTab
theorem saysRA_of {n : Nat} {chk : PySem.W.Frag → Bool} {fn : List He5.DefA} {ts : List TabN} {tf : List He.Defn} {w : World} {h : Heap} (e : obsRAG n chk fn ts tf h.get? = valRA fn ts w) : SaysRA chk fn ts tf w h (fragA h.get? n) := by
  have e1 : (He.tabsB h.get? tf (fragA h.get? n) && (chk (fragA h.get? n) && fn.all fun d => d.ok (fragA h.get? n))) = true := congrArg (fun z : AlA => z.1.1) e
  obtain ⟨tb, c⟩ := ba2 e1
  have each : ∀ p ∈ tf, PySem.W.codeHdIn (fragA h.get? n) (He.cT (fragA h.get? n) p).1 (He.cT (fragA h.get? n) p).2 = true ∧ ∃ o, h.get? (He.cT (fragA h.get? n) p).2 = some o ∧ He.emptyTab o = true := by
    intro p hp
    obtain ⟨a, b⟩ := ba2 (List.all_eq_true.mp tb p hp)
    refine ⟨a, ?_⟩
    revert b
    cases h.get? (He.cT (fragA h.get? n) p).2 with
    | none => exact fun b => nomatch b
    | some o => exact fun b => ⟨o, rfl, b⟩
  refine ⟨?_, fun p hp => (each p hp).1, fun p hp => ?_, fun p hp => ?_⟩
  · have e2 : fn.map (fun d => He5.fnA (fragA h.get? n) (d.at_ (fragA h.get? n))) = fn.map He5.DefA.val := congrArg (fun z : AlA => z.1.2) e
    have e3 : ts.map (fun t => He.dicW (fragA h.get? n) (He.ga (fragA h.get? n) t.1)) = ts.map fun t => some (He.keysIn w.params t.2) := congrArg (fun z : AlA => z.2) e
    exact Prod.ext (Prod.ext c e2) e3
  · obtain ⟨_, o, q, z⟩ := each p hp
    exact He.frT_none q z
  · obtain ⟨_, o, q, z⟩ := each p hp
    rw [q, He.emptyTab_eq z]
def hookRA (n : Nat) (chk : PySem.W.Frag → Bool) (fn : List He5.DefA) (ts : List TabN) (tf : List He.Defn) : PySem.W.Hook where
  α := AlA
  obs := fun s => obsRAG n chk fn ts tf s.heap.get?
  val := fun w => valRA fn ts w
  says := fun w h => ∃ K : PySem.W.Frag, K.In h ∧ SaysRA chk fn ts tf w h K
  of := fun _ _ e => ⟨_, He.frT_in, saysRA_of e⟩
  keeps := fun _ _ _ ⟨K, hK, c⟩ k => ⟨K, PySem.W.Frag.In.keeps hK k, ⟨c.all, c.hd, c.out, fun p hp => k _ _ (c.empty p hp)⟩⟩
theorem obsRAG_eq {n : Nat} {chk : PySem.W.Frag → Bool} {fn : List He5.DefA} {ts : List TabN} {tf : List He.Defn} {g : Addr → Option Obj} {s : Shared} (h : ∀ a, g a = s.heap.get? a) : obsRAG n chk fn ts tf g = (hookRA n chk fn ts tf).obs s := by
  obtain rfl : g = s.heap.get? := funext h
  rfl
section
variable {chk : PySem.W.Frag → Bool} {fn : List He5.DefA} {ts : List TabN} {tf : List He.Defn} {w : World} {h : Heap} {K : PySem.W.Frag}
theorem SaysRA.look (c : SaysRA chk fn ts tf w h K) : chk K = true := (ba2 (show (chk K && fn.all fun d => d.ok K) = true from congrArg (fun z : AlA => z.1.1) c.all)).1
theorem SaysRA.def_ (c : SaysRA chk fn ts tf w h K) (i : Nat) {d : He5.DefA} (e : fn[i]? = some d := by rfl) : ∃ fd, FunD K d.name d.qual d.params d.body d.scope (d.dvs K) (d.kws K) (d.at_ K) fd := by
  have ok := (ba2 (show (chk K && fn.all fun d => d.ok K) = true from congrArg (fun z : AlA => z.1.1) c.all)).2
  have same : fn.map (fun d => He5.fnA K (d.at_ K)) = fn.map He5.DefA.val := congrArg (fun z : AlA => z.1.2) c.all
  have at_ := congrArg (fun l => l[i]?) same
  simp only [List.getElem?_map, e, Option.map_some, Option.some.injEq] at at_
  exact He5.DefA.funD at_ (List.all_eq_true.mp ok d (List.mem_of_getElem? e))
theorem SaysRA.tab (c : SaysRA chk fn ts tf w h K) (i : Nat) {t : TabN} (e : ts[i]? = some t := by rfl) : ∃ es n, KDict K w (He.ga K t.1) es n := by
  have same : ts.map (fun t => He.dicW K (He.ga K t.1)) = ts.map fun t => some (He.keysIn w.params t.2) := congrArg (fun z : AlA => z.2) c.all
  have at_ := congrArg (fun l => l[i]?) same
  simp only [List.getElem?_map, e, Option.map_some, Option.some.injEq] at at_
  exact He.dicW_ok at_
end
/-! ### staticmethods, special methods -/
def creadB (K : PySem.W.Frag) (C : Addr) : Bool := PySem.W.readsIn K C (.type "type") && eqOO (PySem.W.specialIn K (.ref C) "__getattribute__") (some (some (.builtin "type.__getattribute__")))
theorem creadB_ok {K : PySem.W.Frag} {C : Addr} (h : creadB K C = true) : ClX.CRead K C (.type "type") := by
  obtain ⟨a, b⟩ := ba2 h
  exact ⟨a, of_decide_eq_true b⟩
/-- the def of C's staticmethod m -/
def smA (K : PySem.W.Frag) (C : Addr) (m : Str) : Addr := He5.wf K C "staticmethod" m
def smB (K : PySem.W.Frag) (C : Addr) (m : Str) : Bool := He5.wrapB K C "staticmethod" "staticmethod.__get__" m && PySem.W.keepIn K (.ref (smA K C m))
theorem smB_ok {K : PySem.W.Frag} {C : Addr} {m : Str} (h : smB K C m = true) : SMet K C (.type "type") m (He.ma K C m) (smA K C m) := by
  obtain ⟨a, b⟩ := ba2 h
  obtain ⟨c, d⟩ := He5.wrapB_ok a
  exact ⟨c, d, b⟩
/-- what special methods ask of their class -/
def ownB (K : PySem.W.Frag) (C : Addr) : Bool := PySem.W.selfFirst K C && (decide (PySem.W.mroIn K C (.type "object") = some true) && (eqOO (PySem.W.findIn K (.ref C) "__ne__") (some (some (.builtin "object.__ne__")))))
theorem ownB_ok {K : PySem.W.Frag} {C : Addr} (h : ownB K C = true) : PySem.W.selfFirst K C = true ∧ PySem.W.mroIn K C (.type "object") = some true ∧ PySem.W.findIn K (.ref C) "__ne__" = some (some (.builtin "object.__ne__")) := by
  obtain ⟨a, b⟩ := ba2 h
  obtain ⟨b, c⟩ := ba2 b
  exact ⟨a, of_decide_eq_true b, of_decide_eq_true c⟩
/-- values that are told as data, and their types -/
def bts : List String := ["NoneType", "bool", "int", "str", "list", "tuple", "dict"]
/-- an instance of C beside the classes of the text: what isinstance and == say -/
def ownsB (K : PySem.W.Frag) (own : List Str) (x : Str) : Bool := ownB K (He.ga K x) && (creadB K (He.ga K x) && (decide (PySem.W.findIn K (.ref (He.ga K x)) "__class__" = some (some (.builtin "object.__class__"))) && (decide (PySem.W.specialIn K (.builtin "object.__class__") "__get__" = some (some (.builtin "getset_descriptor.__get__"))) &&
  (decide (PySem.W.takesIn K (.builtin "object.__class__") = some true) && ((own.all fun y => decide (PySem.W.kitOne K (.ref (He.ga K y)) (.ref (He.ga K x)) = some (decide (y = x))) && PySem.W.notFirst K (He.ga K x) (.ref (He.ga K y))) &&
  (bts.all fun t => decide (PySem.W.kitOne K (.type t) (.ref (He.ga K x)) = some false) && (decide (PySem.W.kitOne K (.ref (He.ga K x)) (.type t) = some false) && PySem.W.notFirst K (He.ga K x) (.type t))))))))
structure Owns (K : PySem.W.Frag) (own : List Str) (x : Str) : Prop where
  self : PySem.W.selfFirst K (He.ga K x) = true
  obj : PySem.W.mroIn K (He.ga K x) (.type "object") = some true
  ne : PySem.W.findIn K (.ref (He.ga K x)) "__ne__" = some (some (.builtin "object.__ne__"))
  read : ClX.CRead K (He.ga K x) (.type "type")
  cls : PySem.W.findIn K (.ref (He.ga K x)) "__class__" = some (some (.builtin "object.__class__"))
  get : PySem.W.specialIn K (.builtin "object.__class__") "__get__" = some (some (.builtin "getset_descriptor.__get__"))
  tk : PySem.W.takesIn K (.builtin "object.__class__") = some true
  kit : ∀ y ∈ own, PySem.W.kitOne K (.ref (He.ga K y)) (.ref (He.ga K x)) = some (decide (y = x)) ∧ PySem.W.notFirst K (He.ga K x) (.ref (He.ga K y)) = true
  kitT : ∀ t ∈ bts, PySem.W.kitOne K (.type t) (.ref (He.ga K x)) = some false ∧ PySem.W.kitOne K (.ref (He.ga K x)) (.type t) = some false ∧ PySem.W.notFirst K (He.ga K x) (.type t) = true
theorem ownsB_ok {K : PySem.W.Frag} {own : List Str} {x : Str} (h : ownsB K own x = true) : Owns K own x := by
  obtain ⟨a, h⟩ := ba2 h
  obtain ⟨b, h⟩ := ba2 h
  obtain ⟨c, h⟩ := ba2 h
  obtain ⟨d, h⟩ := ba2 h
  obtain ⟨e, h⟩ := ba2 h
  obtain ⟨f, g⟩ := ba2 h
  obtain ⟨a1, a2, a3⟩ := ownB_ok a
  refine ⟨a1, a2, a3, creadB_ok b, of_decide_eq_true c, of_decide_eq_true d, of_decide_eq_true e, fun y hy => ?_, fun t ht => ?_⟩
  · obtain ⟨u, v⟩ := ba2 (List.all_eq_true.mp f y hy)
    exact ⟨of_decide_eq_true u, v⟩
  · obtain ⟨u, v⟩ := ba2 (List.all_eq_true.mp g t ht)
    obtain ⟨v, z⟩ := ba2 v
    exact ⟨of_decide_eq_true u, of_decide_eq_true v, z⟩
/-- the type of an instance -/
theorem ins_ty {K : PySem.W.Frag} {own : List Str} {x : Str} {H : Hp} {a dx : Addr} {fs : List (Str × V)} (o : Owns K own x) (c : Cls K (He.ga K x)) (e : H a = some (.ins (He.ga K x) dx fs)) : TyX K H (.ref a) (.ref (He.ga K x)) := .base (.ins e c o.cls o.get o.tk o.obj)
end L2.RV
set_option Elab.async false
set_option linter.all false
set_option maxRecDepth 100000
set_option maxHeartbeats 4000000
/-! Own classes' operators: -a, ~a, a op number, a op= b. -/
namespace L2.RV
open PySem PySem.Spec PyProof.Rows PySem.W
section
variable {prog : Program} {w : World} {M : Model} {A : Around} {E : Value → Shared → Prop} {s : Shared} {K : Frag} {x C L f : Addr} {h₀ : Heap} {m : Str → Option Value} {ox : Obj} {od : Option Obj} {nm T : String}
theorem bop1_own {b : Value} {Q : Value → Shared → Prop} (F : Fr h₀ L s.heap m) (X₀ : K.In h₀) (I : InstAt s.heap x ox C od) (hb : Looks (model prog w) s.heap (typeOf b) (.ref C)) (hc : selfFirst K C = true)
    (hs : findIn K (.ref C) (PySem.dunder nm) = some (some (.ref f))) (hf : isFn K (.ref f) = true) (h : wpAny (model prog w) A (call (.ref f) [.ref x, b]) (PySem.W.CmpBack Q) E s) :
    wpAny (model prog w) A (binaryOp1 nm (.ref x) b) (fun r s' => ∃ v, r = some v ∧ Q v s') E s := by
  have X := X₀.keeps F.keep
  obtain ⟨cd, rest, hcd, hm⟩ := ksp_first hc
  have one := ksp_try X I hs hf h
  unfold binaryOp1
  refine wpAny_bind (I.type.here (wpAny_bind (hb.here (wpAny_bind ((fills_K X hcd hm hs).here ?_)))))
  simp only [beq_self_eq_true, if_true]
  refine wpAny_bind (wpAny_pure ?_)
  simp only [Bool.and_false, Bool.false_eq_true, if_false, Bool.false_and]
  refine wpAny_bind (wpAny_pure ?_)
  simp only [Bool.false_eq_true, if_false]
  refine wpAny_bind (wpAny_mono one (fun r s' hr => ?_) fun _ _ z => z)
  obtain ⟨v, rfl, hq⟩ := hr
  exact wpAny_pure ⟨v, rfl, hq⟩
theorem bop1_T {b : Value} {fo ro rc : Option Value} {Q : Value → Shared → Prop} (F : Fr h₀ L s.heap m) (X₀ : K.In h₀) (I : InstAt s.heap x ox C od) (hb : typeOf b = pure (.type T)) (hc : selfFirst K C = true)
    (hs : findIn K (.ref C) (PySem.dunder nm) = some (some (.ref f))) (hf : isFn K (.ref f) = true) (hr : findIn K (.ref C) (dunderR nm) = some rc) (hp : rc = none ∨ ∃ g : Addr, rc = some (.ref g))
    (h1 : findIn K (.type T) (PySem.dunder nm) = some fo) (h2 : findIn K (.type T) (dunderR nm) = some ro) (hsub : subIn K (.type T) (.ref C) = some false)
    (h : wpAny (model prog w) A (call (.ref f) [.ref x, b]) (PySem.W.CmpBack Q) E s) : wpAny (model prog w) A (binaryOp1 nm (.ref x) b) (fun r s' => ∃ v, r = some v ∧ Q v s') E s := by
  have X := X₀.keeps F.keep
  obtain ⟨cd, rest, hcd, hm⟩ := ksp_first hc
  have one := ksp_try X I hs hf h
  obtain ⟨hh, g, d, tt, os⟩ := s
  have L1 : Looks (model prog w) hh (typeOf (.ref x)) (.ref C) := I.type
  have L2 : Looks (model prog w) hh (typeOf b) (.type T) := Looks.of_pure hb
  have L3 : Looks (model prog w) hh (fillsNumberSlot (.ref C) nm) true := fills_K X hcd hm hs
  have L4 : Looks (model prog w) hh (fillsNumberSlot (.type T) nm) ((fo.isSome && !isSeqSlot fo) || (ro.isSome && !isSeqSlot ro)) := ksp_fillsT X h1 h2
  have L5 : Looks (model prog w) hh (isSubtype (.type T) (.ref C)) false := looks_subIn X hsub
  have L6 : Looks (model prog w) hh (numberSlotInPython (.ref C) nm) true := ksp_inPy X hs hr hp
  have L7 : Looks (model prog w) hh (numberSlotInPython (.type T) nm) false := Looks.of_pure rfl
  have L8 : Looks (model prog w) hh (typeLookup (.type T) (dunderR nm)) ro := looks_findIn X h2
  generalize ((fo.isSome && !isSeqSlot fo) || (ro.isSome && !isSeqSlot ro)) = right at L4
  have hne : (Value.ref C == Value.type T) = false := Bool.eq_false_iff.mpr fun q => by cases beq_iff_eq.mp q
  unfold binaryOp1
  refine wpAny_bind (L1.at (wpAny_bind (L2.at (wpAny_bind (L3.at ?_)))))
  simp only [hne, Bool.false_eq_true, if_false]
  cases right with
  | false =>
    ksp_lk
    refine wpAny_mono one (fun r s' hr' => ?_) fun _ _ e => e
    obtain ⟨v, rfl, hq⟩ := hr'
    exact wpAny_pure ⟨v, rfl, hq⟩
  | true =>
    ksp_lk
    refine wpAny_mono one (fun r s' hr' => ?_) fun _ _ e => e
    obtain ⟨v, rfl, hq⟩ := hr'
    exact wpAny_pure ⟨v, rfl, hq⟩
/-- no class above C has an in-place method -/
def noInB (K : Frag) (C : Addr) (nm : String) : Bool := match clsIn K C with
  | some cd => cd.mro.all fun c => decide (findIn K c (dunderI nm) = some none)
  | none => false
theorem no_in {h : Heap} {add : Bool} (X : K.In h) (hn : noInB K C nm = true) : Looks M h (fillsInplaceSlot (.ref C) nm add) false := by
  unfold noInB at hn
  cases hcd : clsIn K C with
  | none => rw [hcd] at hn; cases hn
  | some cd =>
    rw [hcd] at hn
    have hn' : (cd.mro.all fun c => decide (findIn K c (dunderI nm) = some none)) = true := hn
    unfold fillsInplaceSlot
    dsimp only
    refine ((looks_clsIn X hcd).andThen (f := fun cd => pure cd.mro) .now).andThen ?_
    generalize cd.mro = l at hn'
    clear hcd hn
    induction l with
    | nil => exact Looks.of_pure rfl
    | cons c r ih =>
      rw [List.all_cons, Bool.and_eq_true] at hn'
      have e := of_decide_eq_true hn'.1
      rw [List.anyM_cons]
      refine Looks.andThen (a := false) ?_ (ih hn'.2)
      exact (looks_findIn X e).andThen (Looks.of_pure rfl)
theorem inplace_of {op : Operator} {b : Value} {Q : Value → Shared → Prop} (F : Fr h₀ L s.heap m) (X₀ : K.In h₀) (I : InstAt s.heap x ox C od) (hn : noInB K C op.info.2 = true)
    (h : wpAny (model prog w) A (binaryOp1 op.info.2 (.ref x) b) (fun r s' => ∃ v, r = some v ∧ Q v s') E s) : wpAny (model prog w) A (inplaceOp op (.ref x) b) Q E s := by
  have X := X₀.keeps F.keep
  unfold inplaceOp
  refine wpAny_holding ?_
  refine wpAny_bind (I.type.here (wpAny_bind ((no_in (add := op == .Add) X hn).here ?_)))
  rw [if_neg Bool.false_ne_true]
  refine wpAny_bind (wpAny_mono h (fun r s' hr => ?_) fun _ _ z => z)
  obtain ⟨v, rfl, hq⟩ := hr
  exact wpAny_pure hq
end
end L2.RV
set_option Elab.async false
set_option linter.all false
set_option maxRecDepth 100000
set_option maxHeartbeats 4000000
/-! .. as rules of the texts. -/
namespace L2.RV
open PySem PySem.Spec PyProof.Rows
/-- a, an instance of C, is handed to an own def -/
def rUnO (C : Addr) (sp : Sp) (E : XK) : V → Hp → VK → Prop := fun x H Q => ∃ a dx fs, x = .ref a ∧ H a = some (.ins C dx fs) ∧ sp [x] H Q E
/-- a, an instance of C, and a number -/
def rBinI (C : Addr) (sp : Sp) (E : XK) : R2 := fun x y H Q => ∃ a dx fs i, x = .ref a ∧ y = .int i ∧ H a = some (.ins C dx fs) ∧ sp [x, y] H Q E
/-- what the class and int say of an operator -/
structure OpI (K : PySem.W.Frag) (C : Addr) (nm : String) : Prop where
  r : ∃ rc, PySem.W.findIn K (.ref C) (dunderR nm) = some rc ∧ (rc = none ∨ ∃ g : Addr, rc = some (.ref g))
  i1 : ∃ fo, PySem.W.findIn K (.type "int") (PySem.dunder nm) = some fo
  i2 : ∃ ro, PySem.W.findIn K (.type "int") (dunderR nm) = some ro
  sub : PySem.W.subIn K (.type "int") (.ref C) = some false
section
variable {X : Cx} {CX : CXT} {C : Addr} {k : Nat} {ps : List Str} {sp : Sp} {E : XK} {pins : List (Addr × Obj)} {σ : L2.St} {H : Hp} {s : Shared} {Q : VK}
theorem un_negO (D : MethS CX X.prog X.w X.K X.mg X.base C "__neg__" k ps sp) (hr : Room k X.A) (hx : Passes CX X E) : UnR X (unaryOp .USub) (rUnO C sp E) := by
  obtain ⟨f, fd, M, fi, bd, F⟩ := D.ex
  intro pins s σ H x v Q I rx h
  obtain ⟨a, dx, fs, rfl, e, q⟩ := h
  cases rx
  obtain ⟨ox, od, J⟩ := ins_at I e
  obtain ⟨m, hF⟩ := I.fr
  exact PySem.W.ksp_neg hF I.ok.mod.kin J M.at_ M.fn (run_at (vs := [.ref a]) F bd hr rfl hx I (.cons rfl .nil) q)
theorem un_invO (D : MethS CX X.prog X.w X.K X.mg X.base C "__invert__" k ps sp) (hr : Room k X.A) (hx : Passes CX X E) : UnR X (unaryOp .Invert) (rUnO C sp E) := by
  obtain ⟨f, fd, M, fi, bd, F⟩ := D.ex
  intro pins s σ H x v Q I rx h
  obtain ⟨a, dx, fs, rfl, e, q⟩ := h
  cases rx
  obtain ⟨ox, od, J⟩ := ins_at I e
  obtain ⟨m, hF⟩ := I.fr
  exact PySem.W.ksp_inv hF I.ok.mod.kin J M.at_ M.fn (run_at (vs := [.ref a]) F bd hr rfl hx I (.cons rfl .nil) q)
theorem op_binI {op : Operator} (D : MethS CX X.prog X.w X.K X.mg X.base C (PySem.dunder op.info.2) k ps sp) (hc : PySem.W.selfFirst X.K C = true) (o : OpI X.K C op.info.2) (hr : Room k X.A) (hx : Passes CX X E) : OpR X (binaryOp op) (rBinI C sp E) := by
  obtain ⟨f, fd, M, fi, bd, F⟩ := D.ex
  intro pins s σ H x y v u Q I rx ry h
  obtain ⟨a, dx, fs, i, rfl, rfl, e, q⟩ := h
  cases rx
  obtain ⟨t, rfl⟩ := ry
  obtain ⟨ox, od, J⟩ := ins_at I e
  obtain ⟨m, hF⟩ := I.fr
  obtain ⟨rc, h1, h2⟩ := o.r
  obtain ⟨fo, h3⟩ := o.i1
  obtain ⟨ro, h4⟩ := o.i2
  refine PySem.W.ksp_binT hF I.ok.mod.kin J rfl hc M.at_ M.fn h1 h2 h3 h4 o.sub (thn (run_at (vs := [.ref a, .int i]) F bd hr rfl hx I (.cons rfl (.cons ⟨_, rfl⟩ .nil)) q) ?_)
  rintro r s1 ⟨z, H1, I1, rz, q1⟩
  exact back_of I1 rz q1
theorem iop_binO {op : Operator} (D : MethS CX X.prog X.w X.K X.mg X.base C (PySem.dunder op.info.2) k ps sp) (hc : PySem.W.selfFirst X.K C = true) (hn : noInB X.K C op.info.2 = true) (hr : Room k X.A) (hx : Passes CX X E) : OpR X (inplaceOp op) (rBinO C sp E) := by
  obtain ⟨f, fd, M, fi, bd, F⟩ := D.ex
  intro pins s σ H x y v u Q I rx ry h
  obtain ⟨a, dx, fs, b, dy, gs, rfl, rfl, e, e', q⟩ := h
  cases rx
  cases ry
  obtain ⟨ox, od, J⟩ := ins_at I e
  obtain ⟨oy, od', J'⟩ := ins_at I e'
  obtain ⟨m, hF⟩ := I.fr
  refine inplace_of hF I.ok.mod.kin J hn (bop1_own hF I.ok.mod.kin J J'.type hc M.at_ M.fn (thn (run_at (vs := [.ref a, .ref b]) F bd hr rfl hx I (.cons rfl (.cons rfl .nil)) q) ?_))
  rintro r s1 ⟨z, H1, I1, rz, q1⟩
  exact back_of I1 rz q1
theorem iop_binI {op : Operator} (D : MethS CX X.prog X.w X.K X.mg X.base C (PySem.dunder op.info.2) k ps sp) (hc : PySem.W.selfFirst X.K C = true) (hn : noInB X.K C op.info.2 = true) (o : OpI X.K C op.info.2) (hr : Room k X.A) (hx : Passes CX X E) : OpR X (inplaceOp op) (rBinI C sp E) := by
  obtain ⟨f, fd, M, fi, bd, F⟩ := D.ex
  intro pins s σ H x y v u Q I rx ry h
  obtain ⟨a, dx, fs, i, rfl, rfl, e, q⟩ := h
  cases rx
  obtain ⟨t, rfl⟩ := ry
  obtain ⟨ox, od, J⟩ := ins_at I e
  obtain ⟨m, hF⟩ := I.fr
  obtain ⟨rc, h1, h2⟩ := o.r
  obtain ⟨fo, h3⟩ := o.i1
  obtain ⟨ro, h4⟩ := o.i2
  refine inplace_of hF I.ok.mod.kin J hn (bop1_T hF I.ok.mod.kin J rfl hc M.at_ M.fn h1 h2 h3 h4 o.sub (thn (run_at (vs := [.ref a, .int i]) F bd hr rfl hx I (.cons rfl (.cons ⟨_, rfl⟩ .nil)) q) ?_))
  rintro r s1 ⟨z, H1, I1, rz, q1⟩
  exact back_of I1 rz q1
end
end L2.RV
set_option Elab.async false
set_option linter.all false
set_option maxRecDepth 100000
set_option maxHeartbeats 4000000
/-! What is asked of a class whose operators take numbers, or stand in a op= b. -/
namespace L2.RV
open PySem PySem.Spec PyProof.Rows
def rOkB (o : Option (Option Value)) : Bool := match o with
  | some none => true
  | some (some (.ref _)) => true
  | _ => false
def opB (K : PySem.W.Frag) (p : Str × String) : Bool := noInB K (He.ga K p.1) p.2 && (decide (PySem.W.subIn K (.type "int") (.ref (He.ga K p.1)) = some false) && (decide (PySem.W.mroIn K (He.ga K p.1) (.type "int") = some false) && (rOkB (PySem.W.findIn K (.ref (He.ga K p.1)) (dunderR p.2)) &&
  ((PySem.W.findIn K (.type "int") (PySem.dunder p.2)).isSome && (PySem.W.findIn K (.type "int") (dunderR p.2)).isSome))))
structure OpsC (K : PySem.W.Frag) (C : Addr) (nm : String) : Prop where
  noin : noInB K C nm = true
  opi : OpI K C nm
  mro : PySem.W.mroIn K C (.type "int") = some false
theorem opB_ok {K : PySem.W.Frag} {x : Str} {nm : String} (h : opB K (x, nm) = true) : OpsC K (He.ga K x) nm := by
  obtain ⟨a, h⟩ := ba2 h
  obtain ⟨b, h⟩ := ba2 h
  obtain ⟨c, h⟩ := ba2 h
  obtain ⟨d, h⟩ := ba2 h
  obtain ⟨e, f⟩ := ba2 h
  refine ⟨a, ⟨?_, Option.isSome_iff_exists.mp e, Option.isSome_iff_exists.mp f, of_decide_eq_true b⟩, of_decide_eq_true c⟩
  cases q : PySem.W.findIn K (.ref (He.ga K x)) (dunderR nm) with
  | none =>
    have d' : rOkB (PySem.W.findIn K (.ref (He.ga K x)) (dunderR nm)) = true := d
    rw [q] at d'
    cases d'
  | some r =>
    have d' : rOkB (PySem.W.findIn K (.ref (He.ga K x)) (dunderR nm)) = true := d
    rw [q] at d'
    refine ⟨r, rfl, ?_⟩
    cases r with
    | none => exact .inl rfl
    | some v =>
      cases v with
      | ref g => exact .inr ⟨g, rfl⟩
      | _ => cases d'
end L2.RV
set_option Elab.async false
set_option linter.all false
set_option maxRecDepth 100000
set_option maxHeartbeats 4000000
/-! Properties of own classes, read. -/
namespace L2.RV
open PySem PySem.Spec PyProof.Rows
/-- the def behind C's property f -/
def prG (K : PySem.W.Frag) (C : Addr) (f : Str) : Addr := He5.wf K C "property" f
def propB (K : PySem.W.Frag) (p : Str × Str) : Bool :=
  eqOO (PySem.W.findIn K (.ref (He.ga K p.1)) p.2) (some (some (.ref (He.ma K (He.ga K p.1) p.2)))) &&
  (eqOO (PySem.W.specialIn K (.ref (He.ma K (He.ga K p.1) p.2)) "__get__") (some (some (.builtin "property.__get__"))) &&
  (decide (PySem.W.takesIn K (.ref (He.ma K (He.ga K p.1) p.2)) = some true) && (match PySem.W.recIn K (He.ma K (He.ga K p.1) p.2) "property" with
    | some (.ref _ :: _) => true
    | _ => false)))
theorem propB_ok {K : PySem.W.Frag} {x f : Str} (h : propB K (x, f) = true) : PropOf K (He.ga K x) f (He.ma K (He.ga K x) f) (prG K (He.ga K x) f) := by
  obtain ⟨a, h⟩ := ba2 h
  obtain ⟨b, h⟩ := ba2 h
  obtain ⟨c, d⟩ := ba2 h
  refine ⟨of_decide_eq_true a, of_decide_eq_true b, of_decide_eq_true c, ?_⟩
  unfold prG He5.wf
  revert d
  show (match PySem.W.recIn K (He.ma K (He.ga K x) f) "property" with
    | some (.ref _ :: _) => true
    | _ => false) = true → _
  cases PySem.W.recIn K (He.ma K (He.ga K x) f) "property" with
  | none => exact fun z => nomatch z
  | some l =>
    cases l with
    | nil => exact fun z => nomatch z
    | cons v r =>
      cases v with
      | ref g => exact fun _ => ⟨r, rfl⟩
      | _ => exact fun z => nomatch z
/-- C's property f, with its promise -/
structure PropX (P : Program) (w : World) (K : PySem.W.Frag) (mg : Str → Option Value) (base : Heap) (C : Addr) (f : Str) (k : Nat) (sp : Sp) : Prop where
  ex : ∃ p g fd, Cls K C ∧ PropOf K C f p g ∧ FnOk P w K mg base CX0 k g fd ["self"] sp ∧ Binds K fd ["self"] []
theorem pe_propX {X : Cx} {C : Addr} {f : Str} {k : Nat} {sp : Sp} {E : XK} {e : Expr} {pos : Pos} {ta : TE} (D : PropX X.prog X.w X.K X.mg X.base C f k sp) (hr : Room (k + 1) X.A) (he : PE X e ta)
    (hab : attributeBase e f X.env (eval e X.env) = eval e X.env := by rfl) : PE X (.Attribute e f pos) (tProp C sp [] E ta) := by
  obtain ⟨p, g, fd, c, hp, F, b⟩ := D.ex
  exact pe_prop he c hp F hr b .nil pass_CX0 hab
end L2.RV
set_option Elab.async false
set_option linter.all false
/-! A world whose one row is told. -/
namespace L2.RV
open PySem
def fixF (f : String → Bool) (r : String) (b : Bool) : String → Bool := fun s => if s = r then b else f s
theorem fixF_eq (f : String → Bool) (r : String) : f = fixF f r (f r) := by
  funext s
  unfold fixF
  split
  · rename_i e
    rw [e]
  · rfl
/-- the world, its answer at the row r being b -/
def fixW (w : World) (r : String) (b : Bool) : World := { w with params := { w.params with followText := fixF w.params.followText r b } }
theorem fixW_eq (w : World) (r : String) : w = fixW w r (w.params.followText r) := by
  obtain ⟨d, p⟩ := w
  unfold fixW
  rw [← fixF_eq]
end L2.RV
set_option Elab.async false
set_option linter.all false
set_option maxRecDepth 100000
set_option maxHeartbeats 4000000
/-! The text by places, what is asked of the heap behind the top. -/
namespace L2.K20
open PySem PySem.Spec PyProof.Rows L2.RV
def top (i : Nat) : Stmt := PySem.Challenge.pw_rowvault_k20_books_made_and_asked.main.body.getD i (.Pass ⟨0, 0, 0, 0⟩)
abbrev s_is_whole : Stmt := top 22
theorem sc_is_whole : FnScope ["value"] ["value"] (defScope s_is_whole) := ⟨rfl, rfl, rfl, by decide +kernel, rfl, by decide +kernel, by decide +kernel⟩
def d_is_whole : He5.DefA := ⟨fun K => He.ga K "is_whole", "is_whole", "is_whole", defArgs s_is_whole, defBody s_is_whole, defScope s_is_whole, [], []⟩
abbrev s_is_whole_from : Stmt := top 23
theorem sc_is_whole_from : FnScope ["value", "low", "high"] ["value", "low", "high"] (defScope s_is_whole_from) := ⟨rfl, rfl, rfl, by decide +kernel, rfl, by decide +kernel, by decide +kernel⟩
def d_is_whole_from : He5.DefA := ⟨fun K => He.ga K "is_whole_from", "is_whole_from", "is_whole_from", defArgs s_is_whole_from, defBody s_is_whole_from, defScope s_is_whole_from, [], []⟩
abbrev s_is_name : Stmt := top 24
theorem sc_is_name : FnScope ["value", "letters"] ["value"] (defScope s_is_name) := ⟨rfl, rfl, rfl, by decide +kernel, rfl, by decide +kernel, by decide +kernel⟩
def d_is_name : He5.DefA := ⟨fun K => He.ga K "is_name", "is_name", "is_name", defArgs s_is_name, defBody s_is_name, defScope s_is_name, [], []⟩
abbrev s_whole_text : Stmt := top 27
theorem sc_whole_text : FnScope ["number", "rest", "pieces", "digits", "piece"] ["number"] (defScope s_whole_text) := ⟨rfl, rfl, rfl, by decide +kernel, rfl, by decide +kernel, by decide +kernel⟩
def d_whole_text : He5.DefA := ⟨fun K => He.ga K "whole_text", "whole_text", "whole_text", defArgs s_whole_text, defBody s_whole_text, defScope s_whole_text, [], []⟩
abbrev s_is_whole_text : Stmt := top 28
theorem sc_is_whole_text : FnScope ["word", "digits"] ["word"] (defScope s_is_whole_text) := ⟨rfl, rfl, rfl, by decide +kernel, rfl, by decide +kernel, by decide +kernel⟩
def d_is_whole_text : He5.DefA := ⟨fun K => He.ga K "is_whole_text", "is_whole_text", "is_whole_text", defArgs s_is_whole_text, defBody s_is_whole_text, defScope s_is_whole_text, [], []⟩
abbrev s_whole_of : Stmt := top 29
theorem sc_whole_of : FnScope ["word", "digits", "first", "number", "at"] ["word"] (defScope s_whole_of) := ⟨rfl, rfl, rfl, by decide +kernel, rfl, by decide +kernel, by decide +kernel⟩
def d_whole_of : He5.DefA := ⟨fun K => He.ga K "whole_of", "whole_of", "whole_of", defArgs s_whole_of, defBody s_whole_of, defScope s_whole_of, [], []⟩
abbrev s_words_of : Stmt := top 30
theorem sc_words_of : FnScope ["text", "line"] ["text", "line"] (defScope s_words_of) := ⟨rfl, rfl, rfl, by decide +kernel, rfl, by decide +kernel, by decide +kernel⟩
def d_words_of : He5.DefA := ⟨fun K => He.ga K "words_of", "words_of", "words_of", defArgs s_words_of, defBody s_words_of, defScope s_words_of, [.int 0], []⟩
abbrev s_are_keys : Stmt := top 37
theorem sc_are_keys : FnScope ["value", "key"] ["value"] (defScope s_are_keys) := ⟨rfl, rfl, rfl, by decide +kernel, rfl, by decide +kernel, by decide +kernel⟩
def d_are_keys : He5.DefA := ⟨fun K => He.ga K "are_keys", "are_keys", "are_keys", defArgs s_are_keys, defBody s_are_keys, defScope s_are_keys, [], []⟩
abbrev s_take_shape : Stmt := top 38
theorem sc_take_shape : FnScope ["words", "keys", "days"] ["words"] (defScope s_take_shape) := ⟨rfl, rfl, rfl, by decide +kernel, rfl, by decide +kernel, by decide +kernel⟩
def d_take_shape : He5.DefA := ⟨fun K => He.ga K "take_shape", "take_shape", "take_shape", defArgs s_take_shape, defBody s_take_shape, defScope s_take_shape, [], []⟩
abbrev s_is_key_behind : Stmt := top 39
theorem sc_is_key_behind : FnScope ["word", "keys", "key"] ["word", "keys"] (defScope s_is_key_behind) := ⟨rfl, rfl, rfl, by decide +kernel, rfl, by decide +kernel, by decide +kernel⟩
def d_is_key_behind : He5.DefA := ⟨fun K => He.ga K "is_key_behind", "is_key_behind", "is_key_behind", defArgs s_is_key_behind, defBody s_is_key_behind, defScope s_is_key_behind, [], []⟩
abbrev s_take_place : Stmt := top 40
theorem sc_take_place : FnScope ["words", "shape", "after", "places", "key", "day", "place"] ["words", "shape", "after"] (defScope s_take_place) := ⟨rfl, rfl, rfl, by decide +kernel, rfl, by decide +kernel, by decide +kernel⟩
def d_take_place : He5.DefA := ⟨fun K => He.ga K "take_place", "take_place", "take_place", defArgs s_take_place, defBody s_take_place, defScope s_take_place, [.int (-1)], []⟩
abbrev s_check_places : Stmt := top 45
theorem sc_check_places : FnScope ["shape", "places", "place"] ["shape", "places"] (defScope s_check_places) := ⟨rfl, rfl, rfl, by decide +kernel, rfl, by decide +kernel, by decide +kernel⟩
def d_check_places : He5.DefA := ⟨fun K => He.ga K "check_places", "check_places", "check_places", defArgs s_check_places, defBody s_check_places, defScope s_check_places, [], []⟩
abbrev s_is_part_of : Stmt := top 48
theorem sc_is_part_of : FnScope ["value", "shape"] ["value", "shape"] (defScope s_is_part_of) := ⟨rfl, rfl, rfl, by decide +kernel, rfl, by decide +kernel, by decide +kernel⟩
def d_is_part_of : He5.DefA := ⟨fun K => He.ga K "is_part_of", "is_part_of", "is_part_of", defArgs s_is_part_of, defBody s_is_part_of, defScope s_is_part_of, [], []⟩
abbrev s_take_places : Stmt := top 49
theorem sc_take_places : FnScope ["words", "shape", "places", "place"] ["words", "shape"] (defScope s_take_places) := ⟨rfl, rfl, rfl, by decide +kernel, rfl, by decide +kernel, by decide +kernel⟩
def d_take_places : He5.DefA := ⟨fun K => He.ga K "take_places", "take_places", "take_places", defArgs s_take_places, defBody s_take_places, defScope s_take_places, [], []⟩
abbrev s_check_amounts : Stmt := top 54
theorem sc_check_amounts : FnScope ["shape", "amounts", "place", "amount"] ["shape", "amounts"] (defScope s_check_amounts) := ⟨rfl, rfl, rfl, by decide +kernel, rfl, by decide +kernel, by decide +kernel⟩
def d_check_amounts : He5.DefA := ⟨fun K => He.ga K "check_amounts", "check_amounts", "check_amounts", defArgs s_check_amounts, defBody s_check_amounts, defScope s_check_amounts, [], []⟩
abbrev s_check_rows : Stmt := top 55
theorem sc_check_rows : FnScope ["shape", "rows", "at", "row", "key", "day", "amount"] ["shape", "rows"] (defScope s_check_rows) := ⟨rfl, rfl, rfl, by decide +kernel, rfl, by decide +kernel, by decide +kernel⟩
def d_check_rows : He5.DefA := ⟨fun K => He.ga K "check_rows", "check_rows", "check_rows", defArgs s_check_rows, defBody s_check_rows, defScope s_check_rows, [], []⟩
abbrev s_is_table_of : Stmt := top 58
theorem sc_is_table_of : FnScope ["value", "shape"] ["value", "shape"] (defScope s_is_table_of) := ⟨rfl, rfl, rfl, by decide +kernel, rfl, by decide +kernel, by decide +kernel⟩
def d_is_table_of : He5.DefA := ⟨fun K => He.ga K "is_table_of", "is_table_of", "is_table_of", defArgs s_is_table_of, defBody s_is_table_of, defScope s_is_table_of, [], []⟩
abbrev s_take_amounts : Stmt := top 61
theorem sc_take_amounts : FnScope ["words", "shape", "amounts", "place"] ["words", "shape"] (defScope s_take_amounts) := ⟨rfl, rfl, rfl, by decide +kernel, rfl, by decide +kernel, by decide +kernel⟩
def d_take_amounts : He5.DefA := ⟨fun K => He.ga K "take_amounts", "take_amounts", "take_amounts", defArgs s_take_amounts, defBody s_take_amounts, defScope s_take_amounts, [], []⟩
abbrev s_take_weight : Stmt := top 62
theorem sc_take_weight : FnScope ["words"] ["words"] (defScope s_take_weight) := ⟨rfl, rfl, rfl, by decide +kernel, rfl, by decide +kernel, by decide +kernel⟩
def d_take_weight : He5.DefA := ⟨fun K => He.ga K "take_weight", "take_weight", "take_weight", defArgs s_take_weight, defBody s_take_weight, defScope s_take_weight, [], []⟩
abbrev s_is_question_of : Stmt := top 69
theorem sc_is_question_of : FnScope ["value", "shape"] ["value", "shape"] (defScope s_is_question_of) := ⟨rfl, rfl, rfl, by decide +kernel, rfl, by decide +kernel, by decide +kernel⟩
def d_is_question_of : He5.DefA := ⟨fun K => He.ga K "is_question_of", "is_question_of", "is_question_of", defArgs s_is_question_of, defBody s_is_question_of, defScope s_is_question_of, [], []⟩
abbrev s_take_weights : Stmt := top 72
theorem sc_take_weights : FnScope ["words", "shape", "weights", "weight", "place"] ["words", "shape"] (defScope s_take_weights) := ⟨rfl, rfl, rfl, by decide +kernel, rfl, by decide +kernel, by decide +kernel⟩
def d_take_weights : He5.DefA := ⟨fun K => He.ga K "take_weights", "take_weights", "take_weights", defArgs s_take_weights, defBody s_take_weights, defScope s_take_weights, [], []⟩
abbrev s_check_pair : Stmt := top 77
theorem sc_check_pair : FnScope ["shape", "pair", "ahead", "name", "question"] ["shape", "pair", "ahead"] (defScope s_check_pair) := ⟨rfl, rfl, rfl, by decide +kernel, rfl, by decide +kernel, by decide +kernel⟩
def d_check_pair : He5.DefA := ⟨fun K => He.ga K "check_pair", "check_pair", "check_pair", defArgs s_check_pair, defBody s_check_pair, defScope s_check_pair, [], []⟩
abbrev s_take_rows : Stmt := top 80
theorem sc_take_rows : FnScope ["words", "shape", "rows", "row"] ["words", "shape"] (defScope s_take_rows) := ⟨rfl, rfl, rfl, by decide +kernel, rfl, by decide +kernel, by decide +kernel⟩
def d_take_rows : He5.DefA := ⟨fun K => He.ga K "take_rows", "take_rows", "take_rows", defArgs s_take_rows, defBody s_take_rows, defScope s_take_rows, [], []⟩
abbrev s_take_row : Stmt := top 81
theorem sc_take_row : FnScope ["words", "shape", "after", "name", "weights"] ["words", "shape", "after"] (defScope s_take_row) := ⟨rfl, rfl, rfl, by decide +kernel, rfl, by decide +kernel, by decide +kernel⟩
def d_take_row : He5.DefA := ⟨fun K => He.ga K "take_row", "take_row", "take_row", defArgs s_take_row, defBody s_take_row, defScope s_take_row, [], []⟩
abbrev s_take_name : Stmt := top 82
theorem sc_take_name : FnScope ["words", "after"] ["words", "after"] (defScope s_take_name) := ⟨rfl, rfl, rfl, by decide +kernel, rfl, by decide +kernel, by decide +kernel⟩
def d_take_name : He5.DefA := ⟨fun K => He.ga K "take_name", "take_name", "take_name", defArgs s_take_name, defBody s_take_name, defScope s_take_name, [], []⟩
abbrev s_law_pen : Stmt := top 84
theorem sc_law_pen : FnScope ["_law_script"] ["_law_script"] (defScope s_law_pen) := ⟨rfl, rfl, rfl, by decide +kernel, rfl, by decide +kernel, by decide +kernel⟩
def d_law_pen : He5.DefA := ⟨fun K => He.ga K "_law_pen", "_law_pen", "_law_pen", defArgs s_law_pen, defBody s_law_pen, defScope s_law_pen, [], []⟩
abbrev s_law_draw : Stmt := top 85
theorem sc_law_draw : FnScope ["_law_pen_here", "_law_many", "_law_turn", "_law_cell", "_law_blend", "_law_digit", "_law_great"] ["_law_pen_here", "_law_many"] (defScope s_law_draw) := ⟨rfl, rfl, rfl, by decide +kernel, rfl, by decide +kernel, by decide +kernel⟩
def d_law_draw : He5.DefA := ⟨fun K => He.ga K "_law_draw", "_law_draw", "_law_draw", defArgs s_law_draw, defBody s_law_draw, defScope s_law_draw, [], []⟩
abbrev s_law_pick : Stmt := top 86
theorem sc_law_pick : FnScope ["_law_pen_here", "_law_some_here"] ["_law_pen_here", "_law_some_here"] (defScope s_law_pick) := ⟨rfl, rfl, rfl, by decide +kernel, rfl, by decide +kernel, by decide +kernel⟩
def d_law_pick : He5.DefA := ⟨fun K => He.ga K "_law_pick", "_law_pick", "_law_pick", defArgs s_law_pick, defBody s_law_pick, defScope s_law_pick, [], []⟩
abbrev s_law_shape : Stmt := top 87
theorem sc_law_shape : FnScope ["_law_pen_here"] ["_law_pen_here"] (defScope s_law_shape) := ⟨rfl, rfl, rfl, by decide +kernel, rfl, by decide +kernel, by decide +kernel⟩
def d_law_shape : He5.DefA := ⟨fun K => He.ga K "_law_shape", "_law_shape", "_law_shape", defArgs s_law_shape, defBody s_law_shape, defScope s_law_shape, [], []⟩
abbrev s_law_weights : Stmt := top 88
theorem sc_law_weights : FnScope ["_law_pen_here", "_law_shape_here", "_law_found", "_law_place"] ["_law_pen_here", "_law_shape_here"] (defScope s_law_weights) := ⟨rfl, rfl, rfl, by decide +kernel, rfl, by decide +kernel, by decide +kernel⟩
def d_law_weights : He5.DefA := ⟨fun K => He.ga K "_law_weights", "_law_weights", "_law_weights", defArgs s_law_weights, defBody s_law_weights, defScope s_law_weights, [], []⟩
abbrev s_law_bare : Stmt := top 89
theorem sc_law_bare : FnScope ["_law_weights_here", "_law_place"] ["_law_weights_here"] (defScope s_law_bare) := ⟨rfl, rfl, rfl, by decide +kernel, rfl, by decide +kernel, by decide +kernel⟩
def d_law_bare : He5.DefA := ⟨fun K => He.ga K "_law_bare", "_law_bare", "_law_bare", defArgs s_law_bare, defBody s_law_bare, defScope s_law_bare, [], []⟩
abbrev s_law_sum : Stmt := top 90
theorem sc_law_sum : FnScope ["_law_shape_here", "_law_weights_here", "_law_amounts", "_law_place"] ["_law_shape_here", "_law_weights_here", "_law_amounts"] (defScope s_law_sum) := ⟨rfl, rfl, rfl, by decide +kernel, rfl, by decide +kernel, by decide +kernel⟩
def d_law_sum : He5.DefA := ⟨fun K => He.ga K "_law_sum", "_law_sum", "_law_sum", defArgs s_law_sum, defBody s_law_sum, defScope s_law_sum, [], []⟩
abbrev s_law_some : Stmt := top 91
theorem sc_law_some : FnScope ["_law_pen_here", "_law_shape_here", "_law_place"] ["_law_pen_here", "_law_shape_here"] (defScope s_law_some) := ⟨rfl, rfl, rfl, by decide +kernel, rfl, by decide +kernel, by decide +kernel⟩
def d_law_some : He5.DefA := ⟨fun K => He.ga K "_law_some", "_law_some", "_law_some", defArgs s_law_some, defBody s_law_some, defScope s_law_some, [], []⟩
abbrev s_law_part : Stmt := top 92
theorem sc_law_part : FnScope ["_law_shape_here", "_law_places", "_law_found", "_law_place"] ["_law_shape_here", "_law_places"] (defScope s_law_part) := ⟨rfl, rfl, rfl, by decide +kernel, rfl, by decide +kernel, by decide +kernel⟩
def d_law_part : He5.DefA := ⟨fun K => He.ga K "_law_part", "_law_part", "_law_part", defArgs s_law_part, defBody s_law_part, defScope s_law_part, [], []⟩
abbrev s_law_entries : Stmt := top 93
theorem sc_law_entries : FnScope ["_law_pen_here", "_law_shape_here", "_law_most", "_law_found", "_law_turn"] ["_law_pen_here", "_law_shape_here", "_law_most"] (defScope s_law_entries) := ⟨rfl, rfl, rfl, by decide +kernel, rfl, by decide +kernel, by decide +kernel⟩
def d_law_entries : He5.DefA := ⟨fun K => He.ga K "_law_entries", "_law_entries", "_law_entries", defArgs s_law_entries, defBody s_law_entries, defScope s_law_entries, [], []⟩
abbrev s_law_book : Stmt := top 94
theorem sc_law_book : FnScope ["_law_shape_here", "_law_entries_here", "_law_found", "_law_name"] ["_law_shape_here", "_law_entries_here"] (defScope s_law_book) := ⟨rfl, rfl, rfl, by decide +kernel, rfl, by decide +kernel, by decide +kernel⟩
def d_law_book : He5.DefA := ⟨fun K => He.ga K "_law_book", "_law_book", "_law_book", defArgs s_law_book, defBody s_law_book, defScope s_law_book, [], []⟩
abbrev s_law_names : Stmt := top 95
theorem sc_law_names : FnScope ["_law_entries_here", "_law_name"] ["_law_entries_here"] (defScope s_law_names) := ⟨rfl, rfl, rfl, by decide +kernel, rfl, by decide +kernel, by decide +kernel⟩
def d_law_names : He5.DefA := ⟨fun K => He.ga K "_law_names", "_law_names", "_law_names", defArgs s_law_names, defBody s_law_names, defScope s_law_names, [], []⟩
abbrev s_law_told_right : Stmt := top 96
theorem sc_law_told_right : FnScope ["_law_book_here", "_law_shape_here", "_law_entries_here", "_law_names_here", "_law_name", "_law_odd"] ["_law_book_here", "_law_shape_here", "_law_entries_here"] (defScope s_law_told_right) := ⟨rfl, rfl, rfl, by decide +kernel, rfl, by decide +kernel, by decide +kernel⟩
def d_law_told_right : He5.DefA := ⟨fun K => He.ga K "_law_told_right", "_law_told_right", "_law_told_right", defArgs s_law_told_right, defBody s_law_told_right, defScope s_law_told_right, [], []⟩
abbrev s_law_answers_right : Stmt := top 97
theorem sc_law_answers_right : FnScope ["_law_pen_here", "_law_book_here", "_law_shape_here", "_law_entries_here", "_law_amounts", "_law_due", "_law_name"] ["_law_pen_here", "_law_book_here", "_law_shape_here", "_law_entries_here"] (defScope s_law_answers_right) := ⟨rfl, rfl, rfl, by decide +kernel, rfl, by decide +kernel, by decide +kernel⟩
def d_law_answers_right : He5.DefA := ⟨fun K => He.ga K "_law_answers_right", "_law_answers_right", "_law_answers_right", defArgs s_law_answers_right, defBody s_law_answers_right, defScope s_law_answers_right, [], []⟩
abbrev s_law_changed_right : Stmt := top 98
theorem sc_law_changed_right : FnScope ["_law_pen_here", "_law_book_here", "_law_shape_here", "_law_entries_here", "_law_more", "_law_gone", "_law_name", "_law_weights_here", "_law_less", "_law_one"] ["_law_pen_here", "_law_book_here", "_law_shape_here", "_law_entries_here"] (defScope s_law_changed_right) := ⟨rfl, rfl, rfl, by decide +kernel, rfl, by decide +kernel, by decide +kernel⟩
def d_law_changed_right : He5.DefA := ⟨fun K => He.ga K "_law_changed_right", "_law_changed_right", "_law_changed_right", defArgs s_law_changed_right, defBody s_law_changed_right, defScope s_law_changed_right, [], []⟩
abbrev s_law_joined_right : Stmt := top 99
theorem sc_law_joined_right : FnScope ["_law_shape_here", "_law_entries_here", "_law_others", "_law_fit", "_law_both", "_law_held", "_law_alike", "_law_due", "_law_one", "_law_other", "_law_name"] ["_law_shape_here", "_law_entries_here", "_law_others"] (defScope s_law_joined_right) := ⟨rfl, rfl, rfl, by decide +kernel, rfl, by decide +kernel, by decide +kernel⟩
def d_law_joined_right : He5.DefA := ⟨fun K => He.ga K "_law_joined_right", "_law_joined_right", "_law_joined_right", defArgs s_law_joined_right, defBody s_law_joined_right, defScope s_law_joined_right, [], []⟩
abbrev s_law : Stmt := top 100
theorem sc_law : FnScope ["_law_script", "_law_pen_here", "_law_turn", "_law_shape_here", "_law_book_here", "_law_pairs", "_law_far", "_law_entries_here", "_law_others", "_law_name"] ["_law_script"] (defScope s_law) := ⟨rfl, rfl, rfl, by decide +kernel, rfl, by decide +kernel, by decide +kernel⟩
def d_law : He5.DefA := ⟨fun K => He.ga K "law", "law", "law", defArgs s_law, defBody s_law, defScope s_law, [], []⟩
abbrev s_check_shape_parts : Stmt := top 43
theorem sc_check_shape_parts : FnScope ["shape"] ["shape"] (defScope s_check_shape_parts) := ⟨rfl, rfl, rfl, by decide +kernel, rfl, by decide +kernel, by decide +kernel⟩
def d_check_shape_parts : He5.DefA := ⟨fun K => He.ga K "check_shape_parts", "check_shape", "check_shape", defArgs s_check_shape_parts, defBody s_check_shape_parts, defScope s_check_shape_parts, [], []⟩
abbrev s_check_other_parts : Stmt := top 46
theorem sc_check_other_parts : FnScope ["part", "other"] ["part", "other"] (defScope s_check_other_parts) := ⟨rfl, rfl, rfl, by decide +kernel, rfl, by decide +kernel, by decide +kernel⟩
def d_check_other_parts : He5.DefA := ⟨fun K => He.ga K "check_other_parts", "check_other", "check_other", defArgs s_check_other_parts, defBody s_check_other_parts, defScope s_check_other_parts, [], []⟩
abbrev s_check_shape_tables : Stmt := top 52
theorem sc_check_shape_tables : FnScope ["shape"] ["shape"] (defScope s_check_shape_tables) := ⟨rfl, rfl, rfl, by decide +kernel, rfl, by decide +kernel, by decide +kernel⟩
def d_check_shape_tables : He5.DefA := ⟨fun K => He.ga K "check_shape_tables", "check_shape", "check_shape", defArgs s_check_shape_tables, defBody s_check_shape_tables, defScope s_check_shape_tables, [], []⟩
abbrev s_check_other_tables : Stmt := top 56
theorem sc_check_other_tables : FnScope ["table", "other"] ["table", "other"] (defScope s_check_other_tables) := ⟨rfl, rfl, rfl, by decide +kernel, rfl, by decide +kernel, by decide +kernel⟩
def d_check_other_tables : He5.DefA := ⟨fun K => He.ga K "check_other_tables", "check_other", "check_other", defArgs s_check_other_tables, defBody s_check_other_tables, defScope s_check_other_tables, [], []⟩
abbrev s_times_tables : Stmt := top 59
theorem sc_times_tables : FnScope ["table", "number", "place"] ["table", "number"] (defScope s_times_tables) := ⟨rfl, rfl, rfl, by decide +kernel, rfl, by decide +kernel, by decide +kernel⟩
def d_times_tables : He5.DefA := ⟨fun K => He.ga K "times_tables", "times", "times", defArgs s_times_tables, defBody s_times_tables, defScope s_times_tables, [], []⟩
abbrev s_check_shape_questions : Stmt := top 65
theorem sc_check_shape_questions : FnScope ["shape"] ["shape"] (defScope s_check_shape_questions) := ⟨rfl, rfl, rfl, by decide +kernel, rfl, by decide +kernel, by decide +kernel⟩
def d_check_shape_questions : He5.DefA := ⟨fun K => He.ga K "check_shape_questions", "check_shape", "check_shape", defArgs s_check_shape_questions, defBody s_check_shape_questions, defScope s_check_shape_questions, [], []⟩
abbrev s_check_other_questions : Stmt := top 67
theorem sc_check_other_questions : FnScope ["question", "other"] ["question", "other"] (defScope s_check_other_questions) := ⟨rfl, rfl, rfl, by decide +kernel, rfl, by decide +kernel, by decide +kernel⟩
def d_check_other_questions : He5.DefA := ⟨fun K => He.ga K "check_other_questions", "check_other", "check_other", defArgs s_check_other_questions, defBody s_check_other_questions, defScope s_check_other_questions, [], []⟩
abbrev s_times_questions : Stmt := top 70
theorem sc_times_questions : FnScope ["question", "number", "place"] ["question", "number"] (defScope s_times_questions) := ⟨rfl, rfl, rfl, by decide +kernel, rfl, by decide +kernel, by decide +kernel⟩
def d_times_questions : He5.DefA := ⟨fun K => He.ga K "times_questions", "times", "times", defArgs s_times_questions, defBody s_times_questions, defScope s_times_questions, [], []⟩
abbrev s_check_shape_books : Stmt := top 75
theorem sc_check_shape_books : FnScope ["shape"] ["shape"] (defScope s_check_shape_books) := ⟨rfl, rfl, rfl, by decide +kernel, rfl, by decide +kernel, by decide +kernel⟩
def d_check_shape_books : He5.DefA := ⟨fun K => He.ga K "check_shape_books", "check_shape", "check_shape", defArgs s_check_shape_books, defBody s_check_shape_books, defScope s_check_shape_books, [], []⟩
abbrev s_check_other_books : Stmt := top 78
theorem sc_check_other_books : FnScope ["book", "other"] ["book", "other"] (defScope s_check_other_books) := ⟨rfl, rfl, rfl, by decide +kernel, rfl, by decide +kernel, by decide +kernel⟩
def d_check_other_books : He5.DefA := ⟨fun K => He.ga K "check_other_books", "check_other", "check_other", defArgs s_check_other_books, defBody s_check_other_books, defScope s_check_other_books, [], []⟩
abbrev s_BadShape : Stmt := inClass (top 6) 0
theorem sc_BadShape : FnScope ["self", "part"] ["self", "part"] (defScope s_BadShape) := ⟨rfl, rfl, rfl, by decide +kernel, rfl, by decide +kernel, by decide +kernel⟩
def d_BadShape : He5.DefA := ⟨fun K => He.fAd K ("BadShape", some "__init__"), "__init__", "BadShape.__init__", defArgs s_BadShape, defBody s_BadShape, defScope s_BadShape, [], []⟩
abbrev s_BadTable : Stmt := inClass (top 7) 0
theorem sc_BadTable : FnScope ["self", "part"] ["self", "part"] (defScope s_BadTable) := ⟨rfl, rfl, rfl, by decide +kernel, rfl, by decide +kernel, by decide +kernel⟩
def d_BadTable : He5.DefA := ⟨fun K => He.fAd K ("BadTable", some "__init__"), "__init__", "BadTable.__init__", defArgs s_BadTable, defBody s_BadTable, defScope s_BadTable, [], []⟩
abbrev s_BadPart : Stmt := inClass (top 8) 0
theorem sc_BadPart : FnScope ["self", "part"] ["self", "part"] (defScope s_BadPart) := ⟨rfl, rfl, rfl, by decide +kernel, rfl, by decide +kernel, by decide +kernel⟩
def d_BadPart : He5.DefA := ⟨fun K => He.fAd K ("BadPart", some "__init__"), "__init__", "BadPart.__init__", defArgs s_BadPart, defBody s_BadPart, defScope s_BadPart, [], []⟩
abbrev s_BadQuestion : Stmt := inClass (top 9) 0
theorem sc_BadQuestion : FnScope ["self", "part"] ["self", "part"] (defScope s_BadQuestion) := ⟨rfl, rfl, rfl, by decide +kernel, rfl, by decide +kernel, by decide +kernel⟩
def d_BadQuestion : He5.DefA := ⟨fun K => He.fAd K ("BadQuestion", some "__init__"), "__init__", "BadQuestion.__init__", defArgs s_BadQuestion, defBody s_BadQuestion, defScope s_BadQuestion, [], []⟩
abbrev s_BadBook : Stmt := inClass (top 10) 0
theorem sc_BadBook : FnScope ["self", "part"] ["self", "part"] (defScope s_BadBook) := ⟨rfl, rfl, rfl, by decide +kernel, rfl, by decide +kernel, by decide +kernel⟩
def d_BadBook : He5.DefA := ⟨fun K => He.fAd K ("BadBook", some "__init__"), "__init__", "BadBook.__init__", defArgs s_BadBook, defBody s_BadBook, defScope s_BadBook, [], []⟩
abbrev s_BadPlace : Stmt := inClass (top 11) 0
theorem sc_BadPlace : FnScope ["self", "value"] ["self", "value"] (defScope s_BadPlace) := ⟨rfl, rfl, rfl, by decide +kernel, rfl, by decide +kernel, by decide +kernel⟩
def d_BadPlace : He5.DefA := ⟨fun K => He.fAd K ("BadPlace", some "__init__"), "__init__", "BadPlace.__init__", defArgs s_BadPlace, defBody s_BadPlace, defScope s_BadPlace, [], []⟩
abbrev s_BadAmount : Stmt := inClass (top 12) 0
theorem sc_BadAmount : FnScope ["self", "value"] ["self", "value"] (defScope s_BadAmount) := ⟨rfl, rfl, rfl, by decide +kernel, rfl, by decide +kernel, by decide +kernel⟩
def d_BadAmount : He5.DefA := ⟨fun K => He.fAd K ("BadAmount", some "__init__"), "__init__", "BadAmount.__init__", defArgs s_BadAmount, defBody s_BadAmount, defScope s_BadAmount, [], []⟩
abbrev s_BadCount : Stmt := inClass (top 13) 0
theorem sc_BadCount : FnScope ["self", "value"] ["self", "value"] (defScope s_BadCount) := ⟨rfl, rfl, rfl, by decide +kernel, rfl, by decide +kernel, by decide +kernel⟩
def d_BadCount : He5.DefA := ⟨fun K => He.fAd K ("BadCount", some "__init__"), "__init__", "BadCount.__init__", defArgs s_BadCount, defBody s_BadCount, defScope s_BadCount, [], []⟩
abbrev s_BadName : Stmt := inClass (top 14) 0
theorem sc_BadName : FnScope ["self", "value"] ["self", "value"] (defScope s_BadName) := ⟨rfl, rfl, rfl, by decide +kernel, rfl, by decide +kernel, by decide +kernel⟩
def d_BadName : He5.DefA := ⟨fun K => He.fAd K ("BadName", some "__init__"), "__init__", "BadName.__init__", defArgs s_BadName, defBody s_BadName, defScope s_BadName, [], []⟩
abbrev s_BadText : Stmt := inClass (top 15) 0
theorem sc_BadText : FnScope ["self", "line", "word"] ["self", "line", "word"] (defScope s_BadText) := ⟨rfl, rfl, rfl, by decide +kernel, rfl, by decide +kernel, by decide +kernel⟩
def d_BadText : He5.DefA := ⟨fun K => He.fAd K ("BadText", some "__init__"), "__init__", "BadText.__init__", defArgs s_BadText, defBody s_BadText, defScope s_BadText, [], []⟩
abbrev s_TooMany : Stmt := inClass (top 16) 0
theorem sc_TooMany : FnScope ["self", "what", "most"] ["self", "what", "most"] (defScope s_TooMany) := ⟨rfl, rfl, rfl, by decide +kernel, rfl, by decide +kernel, by decide +kernel⟩
def d_TooMany : He5.DefA := ⟨fun K => He.fAd K ("TooMany", some "__init__"), "__init__", "TooMany.__init__", defArgs s_TooMany, defBody s_TooMany, defScope s_TooMany, [], []⟩
abbrev s_Taken : Stmt := inClass (top 17) 0
theorem sc_Taken : FnScope ["self", "name"] ["self", "name"] (defScope s_Taken) := ⟨rfl, rfl, rfl, by decide +kernel, rfl, by decide +kernel, by decide +kernel⟩
def d_Taken : He5.DefA := ⟨fun K => He.fAd K ("Taken", some "__init__"), "__init__", "Taken.__init__", defArgs s_Taken, defBody s_Taken, defScope s_Taken, [], []⟩
abbrev s_NoName : Stmt := inClass (top 18) 0
theorem sc_NoName : FnScope ["self", "name"] ["self", "name"] (defScope s_NoName) := ⟨rfl, rfl, rfl, by decide +kernel, rfl, by decide +kernel, by decide +kernel⟩
def d_NoName : He5.DefA := ⟨fun K => He.fAd K ("NoName", some "__init__"), "__init__", "NoName.__init__", defArgs s_NoName, defBody s_NoName, defScope s_NoName, [], []⟩
abbrev s_Words_init : Stmt := inClass (top 31) 0
theorem sc_Words_init : FnScope ["self", "words", "at", "line"] ["self", "words", "at", "line"] (defScope s_Words_init) := ⟨rfl, rfl, rfl, by decide +kernel, rfl, by decide +kernel, by decide +kernel⟩
def d_Words_init : He5.DefA := ⟨fun K => He.ma K (He.ga K "Words") "__init__", "__init__", "Words.__init__", defArgs s_Words_init, defBody s_Words_init, defScope s_Words_init, [], []⟩
abbrev s_Words_refuse : Stmt := inClass (top 31) 1
theorem sc_Words_refuse : FnScope ["self"] ["self"] (defScope s_Words_refuse) := ⟨rfl, rfl, rfl, by decide +kernel, rfl, by decide +kernel, by decide +kernel⟩
def d_Words_refuse : He5.DefA := ⟨fun K => He.ma K (He.ga K "Words") "refuse", "refuse", "Words.refuse", defArgs s_Words_refuse, defBody s_Words_refuse, defScope s_Words_refuse, [], []⟩
abbrev s_Words_peek : Stmt := inClass (top 31) 2
theorem sc_Words_peek : FnScope ["self"] ["self"] (defScope s_Words_peek) := ⟨rfl, rfl, rfl, by decide +kernel, rfl, by decide +kernel, by decide +kernel⟩
def d_Words_peek : He5.DefA := ⟨fun K => He.ma K (He.ga K "Words") "peek", "peek", "Words.peek", defArgs s_Words_peek, defBody s_Words_peek, defScope s_Words_peek, [], []⟩
abbrev s_Words_behind : Stmt := inClass (top 31) 3
theorem sc_Words_behind : FnScope ["self"] ["self"] (defScope s_Words_behind) := ⟨rfl, rfl, rfl, by decide +kernel, rfl, by decide +kernel, by decide +kernel⟩
def d_Words_behind : He5.DefA := ⟨fun K => He.ma K (He.ga K "Words") "behind", "behind", "Words.behind", defArgs s_Words_behind, defBody s_Words_behind, defScope s_Words_behind, [], []⟩
abbrev s_Words_behind_one : Stmt := inClass (top 31) 4
theorem sc_Words_behind_one : FnScope ["self", "choices"] ["self", "choices"] (defScope s_Words_behind_one) := ⟨rfl, rfl, rfl, by decide +kernel, rfl, by decide +kernel, by decide +kernel⟩
def d_Words_behind_one : He5.DefA := ⟨fun K => He.ma K (He.ga K "Words") "behind_one", "behind_one", "Words.behind_one", defArgs s_Words_behind_one, defBody s_Words_behind_one, defScope s_Words_behind_one, [], []⟩
abbrev s_Words_take_one : Stmt := inClass (top 31) 5
theorem sc_Words_take_one : FnScope ["self", "choices"] ["self", "choices"] (defScope s_Words_take_one) := ⟨rfl, rfl, rfl, by decide +kernel, rfl, by decide +kernel, by decide +kernel⟩
def d_Words_take_one : He5.DefA := ⟨fun K => He.ma K (He.ga K "Words") "take_one", "take_one", "Words.take_one", defArgs s_Words_take_one, defBody s_Words_take_one, defScope s_Words_take_one, [], []⟩
abbrev s_Words_is_at_whole : Stmt := inClass (top 31) 6
theorem sc_Words_is_at_whole : FnScope ["self", "word"] ["self"] (defScope s_Words_is_at_whole) := ⟨rfl, rfl, rfl, by decide +kernel, rfl, by decide +kernel, by decide +kernel⟩
def d_Words_is_at_whole : He5.DefA := ⟨fun K => He.ma K (He.ga K "Words") "is_at_whole", "is_at_whole", "Words.is_at_whole", defArgs s_Words_is_at_whole, defBody s_Words_is_at_whole, defScope s_Words_is_at_whole, [], []⟩
abbrev s_Words_take_whole : Stmt := inClass (top 31) 7
theorem sc_Words_take_whole : FnScope ["self"] ["self"] (defScope s_Words_take_whole) := ⟨rfl, rfl, rfl, by decide +kernel, rfl, by decide +kernel, by decide +kernel⟩
def d_Words_take_whole : He5.DefA := ⟨fun K => He.ma K (He.ga K "Words") "take_whole", "take_whole", "Words.take_whole", defArgs s_Words_take_whole, defBody s_Words_take_whole, defScope s_Words_take_whole, [], []⟩
abbrev s_Words_take_from : Stmt := inClass (top 31) 8
theorem sc_Words_take_from : FnScope ["self", "low", "high"] ["self", "low", "high"] (defScope s_Words_take_from) := ⟨rfl, rfl, rfl, by decide +kernel, rfl, by decide +kernel, by decide +kernel⟩
def d_Words_take_from : He5.DefA := ⟨fun K => He.ma K (He.ga K "Words") "take_from", "take_from", "Words.take_from", defArgs s_Words_take_from, defBody s_Words_take_from, defScope s_Words_take_from, [], []⟩
abbrev s_Words_end : Stmt := inClass (top 31) 9
theorem sc_Words_end : FnScope ["self"] ["self"] (defScope s_Words_end) := ⟨rfl, rfl, rfl, by decide +kernel, rfl, by decide +kernel, by decide +kernel⟩
def d_Words_end : He5.DefA := ⟨fun K => He.ma K (He.ga K "Words") "end", "end", "Words.end", defArgs s_Words_end, defBody s_Words_end, defScope s_Words_end, [], []⟩
abbrev s_Shape_init : Stmt := inClass (top 36) 0
theorem sc_Shape_init : FnScope ["self", "keys", "days", "key", "day", "index", "place"] ["self", "keys", "days"] (defScope s_Shape_init) := ⟨rfl, rfl, rfl, by decide +kernel, rfl, by decide +kernel, by decide +kernel⟩
def d_Shape_init : He5.DefA := ⟨fun K => He.ma K (He.ga K "Shape") "__init__", "__init__", "Shape.__init__", defArgs s_Shape_init, defBody s_Shape_init, defScope s_Shape_init, [], []⟩
abbrev s_Shape_index_of : Stmt := inClass (top 36) 1
theorem sc_Shape_index_of : FnScope ["self", "place"] ["self", "place"] (defScope s_Shape_index_of) := ⟨rfl, rfl, rfl, by decide +kernel, rfl, by decide +kernel, by decide +kernel⟩
def d_Shape_index_of : He5.DefA := ⟨fun K => He.ma K (He.ga K "Shape") "index_of", "index_of", "Shape.index_of", defArgs s_Shape_index_of, defBody s_Shape_index_of, defScope s_Shape_index_of, [], []⟩
abbrev s_Shape_len : Stmt := inClass (top 36) 2
theorem sc_Shape_len : FnScope ["self"] ["self"] (defScope s_Shape_len) := ⟨rfl, rfl, rfl, by decide +kernel, rfl, by decide +kernel, by decide +kernel⟩
def d_Shape_len : He5.DefA := ⟨fun K => He.ma K (He.ga K "Shape") "__len__", "__len__", "Shape.__len__", defArgs s_Shape_len, defBody s_Shape_len, defScope s_Shape_len, [], []⟩
abbrev s_Shape_iter : Stmt := inClass (top 36) 3
theorem sc_Shape_iter : FnScope ["self"] ["self"] (defScope s_Shape_iter) := ⟨rfl, rfl, rfl, by decide +kernel, rfl, by decide +kernel, by decide +kernel⟩
def d_Shape_iter : He5.DefA := ⟨fun K => He.ma K (He.ga K "Shape") "__iter__", "__iter__", "Shape.__iter__", defArgs s_Shape_iter, defBody s_Shape_iter, defScope s_Shape_iter, [], []⟩
abbrev s_Shape_contains : Stmt := inClass (top 36) 4
theorem sc_Shape_contains : FnScope ["self", "x", "key", "day"] ["self", "x"] (defScope s_Shape_contains) := ⟨rfl, rfl, rfl, by decide +kernel, rfl, by decide +kernel, by decide +kernel⟩
def d_Shape_contains : He5.DefA := ⟨fun K => He.ma K (He.ga K "Shape") "__contains__", "__contains__", "Shape.__contains__", defArgs s_Shape_contains, defBody s_Shape_contains, defScope s_Shape_contains, [], []⟩
abbrev s_Shape_getitem : Stmt := inClass (top 36) 5
theorem sc_Shape_getitem : FnScope ["self", "at"] ["self", "at"] (defScope s_Shape_getitem) := ⟨rfl, rfl, rfl, by decide +kernel, rfl, by decide +kernel, by decide +kernel⟩
def d_Shape_getitem : He5.DefA := ⟨fun K => He.ma K (He.ga K "Shape") "__getitem__", "__getitem__", "Shape.__getitem__", defArgs s_Shape_getitem, defBody s_Shape_getitem, defScope s_Shape_getitem, [], []⟩
abbrev s_Shape_or : Stmt := inClass (top 36) 6
theorem sc_Shape_or : FnScope ["self", "other", "more", "key"] ["self", "other"] (defScope s_Shape_or) := ⟨rfl, rfl, rfl, by decide +kernel, rfl, by decide +kernel, by decide +kernel⟩
def d_Shape_or : He5.DefA := ⟨fun K => He.ma K (He.ga K "Shape") "__or__", "__or__", "Shape.__or__", defArgs s_Shape_or, defBody s_Shape_or, defScope s_Shape_or, [], []⟩
abbrev s_Shape_le : Stmt := inClass (top 36) 7
theorem sc_Shape_le : FnScope ["self", "other", "held", "key"] ["self", "other"] (defScope s_Shape_le) := ⟨rfl, rfl, rfl, by decide +kernel, rfl, by decide +kernel, by decide +kernel⟩
def d_Shape_le : He5.DefA := ⟨fun K => He.ma K (He.ga K "Shape") "__le__", "__le__", "Shape.__le__", defArgs s_Shape_le, defBody s_Shape_le, defScope s_Shape_le, [], []⟩
abbrev s_Shape_lt : Stmt := inClass (top 36) 8
theorem sc_Shape_lt : FnScope ["self", "other"] ["self", "other"] (defScope s_Shape_lt) := ⟨rfl, rfl, rfl, by decide +kernel, rfl, by decide +kernel, by decide +kernel⟩
def d_Shape_lt : He5.DefA := ⟨fun K => He.ma K (He.ga K "Shape") "__lt__", "__lt__", "Shape.__lt__", defArgs s_Shape_lt, defBody s_Shape_lt, defScope s_Shape_lt, [], []⟩
abbrev s_Shape_eq : Stmt := inClass (top 36) 9
theorem sc_Shape_eq : FnScope ["self", "other"] ["self", "other"] (defScope s_Shape_eq) := ⟨rfl, rfl, rfl, by decide +kernel, rfl, by decide +kernel, by decide +kernel⟩
def d_Shape_eq : He5.DefA := ⟨fun K => He.ma K (He.ga K "Shape") "__eq__", "__eq__", "Shape.__eq__", defArgs s_Shape_eq, defBody s_Shape_eq, defScope s_Shape_eq, [], []⟩
abbrev s_Shape_str : Stmt := inClass (top 36) 10
theorem sc_Shape_str : FnScope ["self"] ["self"] (defScope s_Shape_str) := ⟨rfl, rfl, rfl, by decide +kernel, rfl, by decide +kernel, by decide +kernel⟩
def d_Shape_str : He5.DefA := ⟨fun K => He.ma K (He.ga K "Shape") "__str__", "__str__", "Shape.__str__", defArgs s_Shape_str, defBody s_Shape_str, defScope s_Shape_str, [], []⟩
abbrev s_Part_init : Stmt := inClass (top 42) 0
theorem sc_Part_init : FnScope ["self", "shape", "places", "held", "place"] ["self", "shape", "places"] (defScope s_Part_init) := ⟨rfl, rfl, rfl, by decide +kernel, rfl, by decide +kernel, by decide +kernel⟩
def d_Part_init : He5.DefA := ⟨fun K => He.ma K (He.ga K "Part") "__init__", "__init__", "Part.__init__", defArgs s_Part_init, defBody s_Part_init, defScope s_Part_init, [], []⟩
abbrev s_Part_none : Stmt := inClass (top 42) 2
theorem sc_Part_none : FnScope ["shape"] ["shape"] (defScope s_Part_none) := ⟨rfl, rfl, rfl, by decide +kernel, rfl, by decide +kernel, by decide +kernel⟩
def d_Part_none : He5.DefA := ⟨fun K => smA K (He.ga K "Part") "none", "none", "Part.none", defArgs s_Part_none, defBody s_Part_none, defScope s_Part_none, [], []⟩
abbrev s_Part_len : Stmt := inClass (top 42) 5
theorem sc_Part_len : FnScope ["self"] ["self"] (defScope s_Part_len) := ⟨rfl, rfl, rfl, by decide +kernel, rfl, by decide +kernel, by decide +kernel⟩
def d_Part_len : He5.DefA := ⟨fun K => He.ma K (He.ga K "Part") "__len__", "__len__", "Part.__len__", defArgs s_Part_len, defBody s_Part_len, defScope s_Part_len, [], []⟩
abbrev s_Part_bool : Stmt := inClass (top 42) 6
theorem sc_Part_bool : FnScope ["self"] ["self"] (defScope s_Part_bool) := ⟨rfl, rfl, rfl, by decide +kernel, rfl, by decide +kernel, by decide +kernel⟩
def d_Part_bool : He5.DefA := ⟨fun K => He.ma K (He.ga K "Part") "__bool__", "__bool__", "Part.__bool__", defArgs s_Part_bool, defBody s_Part_bool, defScope s_Part_bool, [], []⟩
abbrev s_Part_iter : Stmt := inClass (top 42) 7
theorem sc_Part_iter : FnScope ["self"] ["self"] (defScope s_Part_iter) := ⟨rfl, rfl, rfl, by decide +kernel, rfl, by decide +kernel, by decide +kernel⟩
def d_Part_iter : He5.DefA := ⟨fun K => He.ma K (He.ga K "Part") "__iter__", "__iter__", "Part.__iter__", defArgs s_Part_iter, defBody s_Part_iter, defScope s_Part_iter, [], []⟩
abbrev s_Part_contains : Stmt := inClass (top 42) 8
theorem sc_Part_contains : FnScope ["self", "x"] ["self", "x"] (defScope s_Part_contains) := ⟨rfl, rfl, rfl, by decide +kernel, rfl, by decide +kernel, by decide +kernel⟩
def d_Part_contains : He5.DefA := ⟨fun K => He.ma K (He.ga K "Part") "__contains__", "__contains__", "Part.__contains__", defArgs s_Part_contains, defBody s_Part_contains, defScope s_Part_contains, [], []⟩
abbrev s_Part_getitem : Stmt := inClass (top 42) 9
theorem sc_Part_getitem : FnScope ["self", "at"] ["self", "at"] (defScope s_Part_getitem) := ⟨rfl, rfl, rfl, by decide +kernel, rfl, by decide +kernel, by decide +kernel⟩
def d_Part_getitem : He5.DefA := ⟨fun K => He.ma K (He.ga K "Part") "__getitem__", "__getitem__", "Part.__getitem__", defArgs s_Part_getitem, defBody s_Part_getitem, defScope s_Part_getitem, [], []⟩
abbrev s_Part_and : Stmt := inClass (top 42) 10
theorem sc_Part_and : FnScope ["self", "other", "places", "place"] ["self", "other"] (defScope s_Part_and) := ⟨rfl, rfl, rfl, by decide +kernel, rfl, by decide +kernel, by decide +kernel⟩
def d_Part_and : He5.DefA := ⟨fun K => He.ma K (He.ga K "Part") "__and__", "__and__", "Part.__and__", defArgs s_Part_and, defBody s_Part_and, defScope s_Part_and, [], []⟩
abbrev s_Part_or : Stmt := inClass (top 42) 11
theorem sc_Part_or : FnScope ["self", "other", "places"] ["self", "other"] (defScope s_Part_or) := ⟨rfl, rfl, rfl, by decide +kernel, rfl, by decide +kernel, by decide +kernel⟩
def d_Part_or : He5.DefA := ⟨fun K => He.ma K (He.ga K "Part") "__or__", "__or__", "Part.__or__", defArgs s_Part_or, defBody s_Part_or, defScope s_Part_or, [], []⟩
abbrev s_Part_sub : Stmt := inClass (top 42) 12
theorem sc_Part_sub : FnScope ["self", "other", "places", "place"] ["self", "other"] (defScope s_Part_sub) := ⟨rfl, rfl, rfl, by decide +kernel, rfl, by decide +kernel, by decide +kernel⟩
def d_Part_sub : He5.DefA := ⟨fun K => He.ma K (He.ga K "Part") "__sub__", "__sub__", "Part.__sub__", defArgs s_Part_sub, defBody s_Part_sub, defScope s_Part_sub, [], []⟩
abbrev s_Part_xor : Stmt := inClass (top 42) 13
theorem sc_Part_xor : FnScope ["self", "other"] ["self", "other"] (defScope s_Part_xor) := ⟨rfl, rfl, rfl, by decide +kernel, rfl, by decide +kernel, by decide +kernel⟩
def d_Part_xor : He5.DefA := ⟨fun K => He.ma K (He.ga K "Part") "__xor__", "__xor__", "Part.__xor__", defArgs s_Part_xor, defBody s_Part_xor, defScope s_Part_xor, [], []⟩
abbrev s_Part_invert : Stmt := inClass (top 42) 14
theorem sc_Part_invert : FnScope ["self", "places", "place"] ["self"] (defScope s_Part_invert) := ⟨rfl, rfl, rfl, by decide +kernel, rfl, by decide +kernel, by decide +kernel⟩
def d_Part_invert : He5.DefA := ⟨fun K => He.ma K (He.ga K "Part") "__invert__", "__invert__", "Part.__invert__", defArgs s_Part_invert, defBody s_Part_invert, defScope s_Part_invert, [], []⟩
abbrev s_Part_le : Stmt := inClass (top 42) 15
theorem sc_Part_le : FnScope ["self", "other", "place"] ["self", "other"] (defScope s_Part_le) := ⟨rfl, rfl, rfl, by decide +kernel, rfl, by decide +kernel, by decide +kernel⟩
def d_Part_le : He5.DefA := ⟨fun K => He.ma K (He.ga K "Part") "__le__", "__le__", "Part.__le__", defArgs s_Part_le, defBody s_Part_le, defScope s_Part_le, [], []⟩
abbrev s_Part_lt : Stmt := inClass (top 42) 16
theorem sc_Part_lt : FnScope ["self", "other"] ["self", "other"] (defScope s_Part_lt) := ⟨rfl, rfl, rfl, by decide +kernel, rfl, by decide +kernel, by decide +kernel⟩
def d_Part_lt : He5.DefA := ⟨fun K => He.ma K (He.ga K "Part") "__lt__", "__lt__", "Part.__lt__", defArgs s_Part_lt, defBody s_Part_lt, defScope s_Part_lt, [], []⟩
abbrev s_Part_eq : Stmt := inClass (top 42) 17
theorem sc_Part_eq : FnScope ["self", "other"] ["self", "other"] (defScope s_Part_eq) := ⟨rfl, rfl, rfl, by decide +kernel, rfl, by decide +kernel, by decide +kernel⟩
def d_Part_eq : He5.DefA := ⟨fun K => He.ma K (He.ga K "Part") "__eq__", "__eq__", "Part.__eq__", defArgs s_Part_eq, defBody s_Part_eq, defScope s_Part_eq, [], []⟩
abbrev s_Part_str : Stmt := inClass (top 42) 18
theorem sc_Part_str : FnScope ["self", "key", "day"] ["self"] (defScope s_Part_str) := ⟨rfl, rfl, rfl, by decide +kernel, rfl, by decide +kernel, by decide +kernel⟩
def d_Part_str : He5.DefA := ⟨fun K => He.ma K (He.ga K "Part") "__str__", "__str__", "Part.__str__", defArgs s_Part_str, defBody s_Part_str, defScope s_Part_str, [], []⟩
abbrev s_Table_init : Stmt := inClass (top 51) 0
theorem sc_Table_init : FnScope ["self", "shape", "amounts", "given", "place"] ["self", "shape", "amounts"] (defScope s_Table_init) := ⟨rfl, rfl, rfl, by decide +kernel, rfl, by decide +kernel, by decide +kernel⟩
def d_Table_init : He5.DefA := ⟨fun K => He.ma K (He.ga K "Table") "__init__", "__init__", "Table.__init__", defArgs s_Table_init, defBody s_Table_init, defScope s_Table_init, [.non], []⟩
abbrev s_Table_of : Stmt := inClass (top 51) 1
theorem sc_Table_of : FnScope ["shape", "rows", "amounts", "key", "day", "amount"] ["shape", "rows"] (defScope s_Table_of) := ⟨rfl, rfl, rfl, by decide +kernel, rfl, by decide +kernel, by decide +kernel⟩
def d_Table_of : He5.DefA := ⟨fun K => smA K (He.ga K "Table") "of", "of", "Table.of", defArgs s_Table_of, defBody s_Table_of, defScope s_Table_of, [], []⟩
abbrev s_Table_len : Stmt := inClass (top 51) 3
theorem sc_Table_len : FnScope ["self"] ["self"] (defScope s_Table_len) := ⟨rfl, rfl, rfl, by decide +kernel, rfl, by decide +kernel, by decide +kernel⟩
def d_Table_len : He5.DefA := ⟨fun K => He.ma K (He.ga K "Table") "__len__", "__len__", "Table.__len__", defArgs s_Table_len, defBody s_Table_len, defScope s_Table_len, [], []⟩
abbrev s_Table_bool : Stmt := inClass (top 51) 4
theorem sc_Table_bool : FnScope ["self"] ["self"] (defScope s_Table_bool) := ⟨rfl, rfl, rfl, by decide +kernel, rfl, by decide +kernel, by decide +kernel⟩
def d_Table_bool : He5.DefA := ⟨fun K => He.ma K (He.ga K "Table") "__bool__", "__bool__", "Table.__bool__", defArgs s_Table_bool, defBody s_Table_bool, defScope s_Table_bool, [], []⟩
abbrev s_Table_iter : Stmt := inClass (top 51) 5
theorem sc_Table_iter : FnScope ["self"] ["self"] (defScope s_Table_iter) := ⟨rfl, rfl, rfl, by decide +kernel, rfl, by decide +kernel, by decide +kernel⟩
def d_Table_iter : He5.DefA := ⟨fun K => He.ma K (He.ga K "Table") "__iter__", "__iter__", "Table.__iter__", defArgs s_Table_iter, defBody s_Table_iter, defScope s_Table_iter, [], []⟩
abbrev s_Table_getitem : Stmt := inClass (top 51) 6
theorem sc_Table_getitem : FnScope ["self", "at"] ["self", "at"] (defScope s_Table_getitem) := ⟨rfl, rfl, rfl, by decide +kernel, rfl, by decide +kernel, by decide +kernel⟩
def d_Table_getitem : He5.DefA := ⟨fun K => He.ma K (He.ga K "Table") "__getitem__", "__getitem__", "Table.__getitem__", defArgs s_Table_getitem, defBody s_Table_getitem, defScope s_Table_getitem, [], []⟩
abbrev s_Table_add : Stmt := inClass (top 51) 7
theorem sc_Table_add : FnScope ["self", "other", "place"] ["self", "other"] (defScope s_Table_add) := ⟨rfl, rfl, rfl, by decide +kernel, rfl, by decide +kernel, by decide +kernel⟩
def d_Table_add : He5.DefA := ⟨fun K => He.ma K (He.ga K "Table") "__add__", "__add__", "Table.__add__", defArgs s_Table_add, defBody s_Table_add, defScope s_Table_add, [], []⟩
abbrev s_Table_sub : Stmt := inClass (top 51) 8
theorem sc_Table_sub : FnScope ["self", "other", "place"] ["self", "other"] (defScope s_Table_sub) := ⟨rfl, rfl, rfl, by decide +kernel, rfl, by decide +kernel, by decide +kernel⟩
def d_Table_sub : He5.DefA := ⟨fun K => He.ma K (He.ga K "Table") "__sub__", "__sub__", "Table.__sub__", defArgs s_Table_sub, defBody s_Table_sub, defScope s_Table_sub, [], []⟩
abbrev s_Table_neg : Stmt := inClass (top 51) 9
theorem sc_Table_neg : FnScope ["self"] ["self"] (defScope s_Table_neg) := ⟨rfl, rfl, rfl, by decide +kernel, rfl, by decide +kernel, by decide +kernel⟩
def d_Table_neg : He5.DefA := ⟨fun K => He.ma K (He.ga K "Table") "__neg__", "__neg__", "Table.__neg__", defArgs s_Table_neg, defBody s_Table_neg, defScope s_Table_neg, [], []⟩
abbrev s_Table_mul : Stmt := inClass (top 51) 10
theorem sc_Table_mul : FnScope ["self", "other"] ["self", "other"] (defScope s_Table_mul) := ⟨rfl, rfl, rfl, by decide +kernel, rfl, by decide +kernel, by decide +kernel⟩
def d_Table_mul : He5.DefA := ⟨fun K => He.ma K (He.ga K "Table") "__mul__", "__mul__", "Table.__mul__", defArgs s_Table_mul, defBody s_Table_mul, defScope s_Table_mul, [], []⟩
abbrev s_Table_rmul : Stmt := inClass (top 51) 11
theorem sc_Table_rmul : FnScope ["self", "other"] ["self", "other"] (defScope s_Table_rmul) := ⟨rfl, rfl, rfl, by decide +kernel, rfl, by decide +kernel, by decide +kernel⟩
def d_Table_rmul : He5.DefA := ⟨fun K => He.ma K (He.ga K "Table") "__rmul__", "__rmul__", "Table.__rmul__", defArgs s_Table_rmul, defBody s_Table_rmul, defScope s_Table_rmul, [], []⟩
abbrev s_Table_and : Stmt := inClass (top 51) 12
theorem sc_Table_and : FnScope ["self", "other", "place"] ["self", "other"] (defScope s_Table_and) := ⟨rfl, rfl, rfl, by decide +kernel, rfl, by decide +kernel, by decide +kernel⟩
def d_Table_and : He5.DefA := ⟨fun K => He.ma K (He.ga K "Table") "__and__", "__and__", "Table.__and__", defArgs s_Table_and, defBody s_Table_and, defScope s_Table_and, [], []⟩
abbrev s_Table_eq : Stmt := inClass (top 51) 13
theorem sc_Table_eq : FnScope ["self", "other"] ["self", "other"] (defScope s_Table_eq) := ⟨rfl, rfl, rfl, by decide +kernel, rfl, by decide +kernel, by decide +kernel⟩
def d_Table_eq : He5.DefA := ⟨fun K => He.ma K (He.ga K "Table") "__eq__", "__eq__", "Table.__eq__", defArgs s_Table_eq, defBody s_Table_eq, defScope s_Table_eq, [], []⟩
abbrev s_Table_str : Stmt := inClass (top 51) 14
theorem sc_Table_str : FnScope ["self", "key", "day"] ["self"] (defScope s_Table_str) := ⟨rfl, rfl, rfl, by decide +kernel, rfl, by decide +kernel, by decide +kernel⟩
def d_Table_str : He5.DefA := ⟨fun K => He.ma K (He.ga K "Table") "__str__", "__str__", "Table.__str__", defArgs s_Table_str, defBody s_Table_str, defScope s_Table_str, [], []⟩
abbrev s_Question_init : Stmt := inClass (top 64) 0
theorem sc_Question_init : FnScope ["self", "shape", "weights", "places", "place"] ["self", "shape", "weights"] (defScope s_Question_init) := ⟨rfl, rfl, rfl, by decide +kernel, rfl, by decide +kernel, by decide +kernel⟩
def d_Question_init : He5.DefA := ⟨fun K => He.ma K (He.ga K "Question") "__init__", "__init__", "Question.__init__", defArgs s_Question_init, defBody s_Question_init, defScope s_Question_init, [], []⟩
abbrev s_Question_of : Stmt := inClass (top 64) 1
theorem sc_Question_of : FnScope ["part", "place"] ["part"] (defScope s_Question_of) := ⟨rfl, rfl, rfl, by decide +kernel, rfl, by decide +kernel, by decide +kernel⟩
def d_Question_of : He5.DefA := ⟨fun K => smA K (He.ga K "Question") "of", "of", "Question.of", defArgs s_Question_of, defBody s_Question_of, defScope s_Question_of, [], []⟩
abbrev s_Question_none : Stmt := inClass (top 64) 2
theorem sc_Question_none : FnScope ["shape"] ["shape"] (defScope s_Question_none) := ⟨rfl, rfl, rfl, by decide +kernel, rfl, by decide +kernel, by decide +kernel⟩
def d_Question_none : He5.DefA := ⟨fun K => smA K (He.ga K "Question") "none", "none", "Question.none", defArgs s_Question_none, defBody s_Question_none, defScope s_Question_none, [], []⟩
abbrev s_Question_call : Stmt := inClass (top 64) 4
theorem sc_Question_call : FnScope ["self", "table", "place", "weight"] ["self", "table"] (defScope s_Question_call) := ⟨rfl, rfl, rfl, by decide +kernel, rfl, by decide +kernel, by decide +kernel⟩
def d_Question_call : He5.DefA := ⟨fun K => He.ma K (He.ga K "Question") "__call__", "__call__", "Question.__call__", defArgs s_Question_call, defBody s_Question_call, defScope s_Question_call, [], []⟩
abbrev s_Question_bool : Stmt := inClass (top 64) 5
theorem sc_Question_bool : FnScope ["self"] ["self"] (defScope s_Question_bool) := ⟨rfl, rfl, rfl, by decide +kernel, rfl, by decide +kernel, by decide +kernel⟩
def d_Question_bool : He5.DefA := ⟨fun K => He.ma K (He.ga K "Question") "__bool__", "__bool__", "Question.__bool__", defArgs s_Question_bool, defBody s_Question_bool, defScope s_Question_bool, [], []⟩
abbrev s_Question_iter : Stmt := inClass (top 64) 6
theorem sc_Question_iter : FnScope ["self"] ["self"] (defScope s_Question_iter) := ⟨rfl, rfl, rfl, by decide +kernel, rfl, by decide +kernel, by decide +kernel⟩
def d_Question_iter : He5.DefA := ⟨fun K => He.ma K (He.ga K "Question") "__iter__", "__iter__", "Question.__iter__", defArgs s_Question_iter, defBody s_Question_iter, defScope s_Question_iter, [], []⟩
abbrev s_Question_getitem : Stmt := inClass (top 64) 7
theorem sc_Question_getitem : FnScope ["self", "at"] ["self", "at"] (defScope s_Question_getitem) := ⟨rfl, rfl, rfl, by decide +kernel, rfl, by decide +kernel, by decide +kernel⟩
def d_Question_getitem : He5.DefA := ⟨fun K => He.ma K (He.ga K "Question") "__getitem__", "__getitem__", "Question.__getitem__", defArgs s_Question_getitem, defBody s_Question_getitem, defScope s_Question_getitem, [], []⟩
abbrev s_Question_add : Stmt := inClass (top 64) 8
theorem sc_Question_add : FnScope ["self", "other", "place"] ["self", "other"] (defScope s_Question_add) := ⟨rfl, rfl, rfl, by decide +kernel, rfl, by decide +kernel, by decide +kernel⟩
def d_Question_add : He5.DefA := ⟨fun K => He.ma K (He.ga K "Question") "__add__", "__add__", "Question.__add__", defArgs s_Question_add, defBody s_Question_add, defScope s_Question_add, [], []⟩
abbrev s_Question_sub : Stmt := inClass (top 64) 9
theorem sc_Question_sub : FnScope ["self", "other", "place"] ["self", "other"] (defScope s_Question_sub) := ⟨rfl, rfl, rfl, by decide +kernel, rfl, by decide +kernel, by decide +kernel⟩
def d_Question_sub : He5.DefA := ⟨fun K => He.ma K (He.ga K "Question") "__sub__", "__sub__", "Question.__sub__", defArgs s_Question_sub, defBody s_Question_sub, defScope s_Question_sub, [], []⟩
abbrev s_Question_neg : Stmt := inClass (top 64) 10
theorem sc_Question_neg : FnScope ["self"] ["self"] (defScope s_Question_neg) := ⟨rfl, rfl, rfl, by decide +kernel, rfl, by decide +kernel, by decide +kernel⟩
def d_Question_neg : He5.DefA := ⟨fun K => He.ma K (He.ga K "Question") "__neg__", "__neg__", "Question.__neg__", defArgs s_Question_neg, defBody s_Question_neg, defScope s_Question_neg, [], []⟩
abbrev s_Question_mul : Stmt := inClass (top 64) 11
theorem sc_Question_mul : FnScope ["self", "other"] ["self", "other"] (defScope s_Question_mul) := ⟨rfl, rfl, rfl, by decide +kernel, rfl, by decide +kernel, by decide +kernel⟩
def d_Question_mul : He5.DefA := ⟨fun K => He.ma K (He.ga K "Question") "__mul__", "__mul__", "Question.__mul__", defArgs s_Question_mul, defBody s_Question_mul, defScope s_Question_mul, [], []⟩
abbrev s_Question_rmul : Stmt := inClass (top 64) 12
theorem sc_Question_rmul : FnScope ["self", "other"] ["self", "other"] (defScope s_Question_rmul) := ⟨rfl, rfl, rfl, by decide +kernel, rfl, by decide +kernel, by decide +kernel⟩
def d_Question_rmul : He5.DefA := ⟨fun K => He.ma K (He.ga K "Question") "__rmul__", "__rmul__", "Question.__rmul__", defArgs s_Question_rmul, defBody s_Question_rmul, defScope s_Question_rmul, [], []⟩
abbrev s_Question_and : Stmt := inClass (top 64) 13
theorem sc_Question_and : FnScope ["self", "other", "place"] ["self", "other"] (defScope s_Question_and) := ⟨rfl, rfl, rfl, by decide +kernel, rfl, by decide +kernel, by decide +kernel⟩
def d_Question_and : He5.DefA := ⟨fun K => He.ma K (He.ga K "Question") "__and__", "__and__", "Question.__and__", defArgs s_Question_and, defBody s_Question_and, defScope s_Question_and, [], []⟩
abbrev s_Question_xor : Stmt := inClass (top 64) 14
theorem sc_Question_xor : FnScope ["self", "other", "places", "place"] ["self", "other"] (defScope s_Question_xor) := ⟨rfl, rfl, rfl, by decide +kernel, rfl, by decide +kernel, by decide +kernel⟩
def d_Question_xor : He5.DefA := ⟨fun K => He.ma K (He.ga K "Question") "__xor__", "__xor__", "Question.__xor__", defArgs s_Question_xor, defBody s_Question_xor, defScope s_Question_xor, [], []⟩
abbrev s_Question_eq : Stmt := inClass (top 64) 15
theorem sc_Question_eq : FnScope ["self", "other"] ["self", "other"] (defScope s_Question_eq) := ⟨rfl, rfl, rfl, by decide +kernel, rfl, by decide +kernel, by decide +kernel⟩
def d_Question_eq : He5.DefA := ⟨fun K => He.ma K (He.ga K "Question") "__eq__", "__eq__", "Question.__eq__", defArgs s_Question_eq, defBody s_Question_eq, defScope s_Question_eq, [], []⟩
abbrev s_Question_str : Stmt := inClass (top 64) 16
theorem sc_Question_str : FnScope ["self", "key", "day"] ["self"] (defScope s_Question_str) := ⟨rfl, rfl, rfl, by decide +kernel, rfl, by decide +kernel, by decide +kernel⟩
def d_Question_str : He5.DefA := ⟨fun K => He.ma K (He.ga K "Question") "__str__", "__str__", "Question.__str__", defArgs s_Question_str, defBody s_Question_str, defScope s_Question_str, [], []⟩
abbrev s_Book_init : Stmt := inClass (top 74) 0
theorem sc_Book_init : FnScope ["self", "shape", "pairs", "questions", "pair", "name"] ["self", "shape", "pairs"] (defScope s_Book_init) := ⟨rfl, rfl, rfl, by decide +kernel, rfl, by decide +kernel, by decide +kernel⟩
def d_Book_init : He5.DefA := ⟨fun K => He.ma K (He.ga K "Book") "__init__", "__init__", "Book.__init__", defArgs s_Book_init, defBody s_Book_init, defScope s_Book_init, [], []⟩
abbrev s_Book_with_question : Stmt := inClass (top 74) 1
theorem sc_Book_with_question : FnScope ["self", "name", "question", "others", "pairs", "other"] ["self", "name", "question"] (defScope s_Book_with_question) := ⟨rfl, rfl, rfl, by decide +kernel, rfl, by decide +kernel, by decide +kernel⟩
def d_Book_with_question : He5.DefA := ⟨fun K => He.ma K (He.ga K "Book") "with_question", "with_question", "Book.with_question", defArgs s_Book_with_question, defBody s_Book_with_question, defScope s_Book_with_question, [], []⟩
abbrev s_Book_without : Stmt := inClass (top 74) 2
theorem sc_Book_without : FnScope ["self", "name", "pairs", "other"] ["self", "name"] (defScope s_Book_without) := ⟨rfl, rfl, rfl, by decide +kernel, rfl, by decide +kernel, by decide +kernel⟩
def d_Book_without : He5.DefA := ⟨fun K => He.ma K (He.ga K "Book") "without", "without", "Book.without", defArgs s_Book_without, defBody s_Book_without, defScope s_Book_without, [], []⟩
abbrev s_Book_call : Stmt := inClass (top 74) 5
theorem sc_Book_call : FnScope ["self", "table", "name", "question"] ["self", "table"] (defScope s_Book_call) := ⟨rfl, rfl, rfl, by decide +kernel, rfl, by decide +kernel, by decide +kernel⟩
def d_Book_call : He5.DefA := ⟨fun K => He.ma K (He.ga K "Book") "__call__", "__call__", "Book.__call__", defArgs s_Book_call, defBody s_Book_call, defScope s_Book_call, [], []⟩
abbrev s_Book_len : Stmt := inClass (top 74) 6
theorem sc_Book_len : FnScope ["self"] ["self"] (defScope s_Book_len) := ⟨rfl, rfl, rfl, by decide +kernel, rfl, by decide +kernel, by decide +kernel⟩
def d_Book_len : He5.DefA := ⟨fun K => He.ma K (He.ga K "Book") "__len__", "__len__", "Book.__len__", defArgs s_Book_len, defBody s_Book_len, defScope s_Book_len, [], []⟩
abbrev s_Book_iter : Stmt := inClass (top 74) 7
theorem sc_Book_iter : FnScope ["self"] ["self"] (defScope s_Book_iter) := ⟨rfl, rfl, rfl, by decide +kernel, rfl, by decide +kernel, by decide +kernel⟩
def d_Book_iter : He5.DefA := ⟨fun K => He.ma K (He.ga K "Book") "__iter__", "__iter__", "Book.__iter__", defArgs s_Book_iter, defBody s_Book_iter, defScope s_Book_iter, [], []⟩
abbrev s_Book_contains : Stmt := inClass (top 74) 8
theorem sc_Book_contains : FnScope ["self", "x"] ["self", "x"] (defScope s_Book_contains) := ⟨rfl, rfl, rfl, by decide +kernel, rfl, by decide +kernel, by decide +kernel⟩
def d_Book_contains : He5.DefA := ⟨fun K => He.ma K (He.ga K "Book") "__contains__", "__contains__", "Book.__contains__", defArgs s_Book_contains, defBody s_Book_contains, defScope s_Book_contains, [], []⟩
abbrev s_Book_getitem : Stmt := inClass (top 74) 9
theorem sc_Book_getitem : FnScope ["self", "at"] ["self", "at"] (defScope s_Book_getitem) := ⟨rfl, rfl, rfl, by decide +kernel, rfl, by decide +kernel, by decide +kernel⟩
def d_Book_getitem : He5.DefA := ⟨fun K => He.ma K (He.ga K "Book") "__getitem__", "__getitem__", "Book.__getitem__", defArgs s_Book_getitem, defBody s_Book_getitem, defScope s_Book_getitem, [], []⟩
abbrev s_Book_or : Stmt := inClass (top 74) 10
theorem sc_Book_or : FnScope ["self", "other", "name", "more", "pairs"] ["self", "other"] (defScope s_Book_or) := ⟨rfl, rfl, rfl, by decide +kernel, rfl, by decide +kernel, by decide +kernel⟩
def d_Book_or : He5.DefA := ⟨fun K => He.ma K (He.ga K "Book") "__or__", "__or__", "Book.__or__", defArgs s_Book_or, defBody s_Book_or, defScope s_Book_or, [], []⟩
abbrev s_Book_le : Stmt := inClass (top 74) 11
theorem sc_Book_le : FnScope ["self", "other", "name"] ["self", "other"] (defScope s_Book_le) := ⟨rfl, rfl, rfl, by decide +kernel, rfl, by decide +kernel, by decide +kernel⟩
def d_Book_le : He5.DefA := ⟨fun K => He.ma K (He.ga K "Book") "__le__", "__le__", "Book.__le__", defArgs s_Book_le, defBody s_Book_le, defScope s_Book_le, [], []⟩
abbrev s_Book_eq : Stmt := inClass (top 74) 12
theorem sc_Book_eq : FnScope ["self", "other"] ["self", "other"] (defScope s_Book_eq) := ⟨rfl, rfl, rfl, by decide +kernel, rfl, by decide +kernel, by decide +kernel⟩
def d_Book_eq : He5.DefA := ⟨fun K => He.ma K (He.ga K "Book") "__eq__", "__eq__", "Book.__eq__", defArgs s_Book_eq, defBody s_Book_eq, defScope s_Book_eq, [], []⟩
abbrev s_Book_str : Stmt := inClass (top 74) 13
theorem sc_Book_str : FnScope ["self", "name"] ["self"] (defScope s_Book_str) := ⟨rfl, rfl, rfl, by decide +kernel, rfl, by decide +kernel, by decide +kernel⟩
def d_Book_str : He5.DefA := ⟨fun K => He.ma K (He.ga K "Book") "__str__", "__str__", "Book.__str__", defArgs s_Book_str, defBody s_Book_str, defScope s_Book_str, [], []⟩
def fn : List He5.DefA := ([d_is_whole, d_is_whole_from, d_is_name, d_whole_text, d_are_keys, d_check_places, d_is_part_of, d_check_amounts, d_is_table_of, d_is_question_of, d_check_pair, d_law_pen, d_law_draw, d_law_pick, d_law_shape, d_law_weights, d_law_bare, d_law_sum, d_law_entries, d_law_book] : List He5.DefA) ++ ([d_law_names, d_law_told_right, d_law_answers_right, d_law_changed_right, d_law_joined_right, d_law, d_check_shape_parts, d_check_shape_tables, d_check_shape_questions, d_check_shape_books, d_check_other_books, d_BadShape, d_BadTable, d_BadPart, d_BadQuestion, d_BadBook, d_BadPlace, d_BadAmount, d_BadCount, d_BadName] : List He5.DefA) ++ ([d_BadText, d_TooMany, d_Taken, d_NoName, d_Shape_init, d_Shape_contains, d_Shape_or, d_Shape_eq, d_Part_init, d_Table_init, d_Table_getitem, d_Question_init, d_Question_call, d_Question_getitem, d_Question_eq, d_Question_str, d_Book_init, d_Book_with_question, d_Book_without, d_Book_call] : List He5.DefA) ++ ([d_Book_len, d_Book_iter, d_Book_contains, d_Book_getitem, d_Book_or, d_Book_le, d_Book_eq, d_Book_str] : List He5.DefA)
/-- the error classes, by their places in the text; of each the one above it -/
def nm : List Str := (["VaultError", "BadInput", "Refused", "NoAnswer", "BadShape", "BadTable", "BadPart", "BadQuestion", "BadBook", "BadPlace", "BadAmount", "BadCount", "BadName", "BadText", "TooMany", "Taken", "NoName"] : List Str)
def up : List Nat := [0, 0, 0, 0, 1, 1, 1, 1, 1, 1, 1, 1, 1, 1, 2, 2, 3]
/-- the i-th class stands below the j-th one, or is it -/
def isa (i j : Nat) : Bool := i == j || (up.getD i 0 == j || (up.getD (up.getD i 0) 0 == j))
def nmAt (i : Nat) : Str := nm.getD i Str.empty
def clsAll (K : PySem.W.Frag) : Bool := (List.range 17).all fun i => gloB K (nmAt i) && clsB K (He.ga K (nmAt i))
def noIni : List Str := (["VaultError", "BadInput", "Refused", "NoAnswer"] : List Str)
def inis : List (Str × List Str) := ([("BadShape", (["part"] : List Str)), ("BadTable", (["part"] : List Str)), ("BadPart", (["part"] : List Str)), ("BadQuestion", (["part"] : List Str)), ("BadBook", (["part"] : List Str)), ("BadPlace", (["value"] : List Str)), ("BadAmount", (["value"] : List Str)), ("BadCount", (["value"] : List Str)), ("BadName", (["value"] : List Str)), ("BadText", (["line", "word"] : List Str)), ("TooMany", (["what", "most"] : List Str)), ("Taken", (["name"] : List Str)), ("NoName", (["name"] : List Str))] : List (Str × List Str))
def frees : List Str := (["ValueError", "abs", "all", "bool", "dict", "divmod", "enumerate", "int", "isinstance", "iter", "len", "list", "max", "range", "set", "sorted", "str", "sum", "tuple"] : List Str)
def fns : List Str := (["is_whole", "is_whole_from", "is_name", "whole_text", "are_keys", "check_places", "is_part_of", "check_amounts", "is_table_of", "is_question_of", "check_pair", "_law_pen", "_law_draw", "_law_pick", "_law_shape", "_law_weights", "_law_bare", "_law_sum", "_law_entries", "_law_book"] : List Str) ++ (["_law_names", "_law_told_right", "_law_answers_right", "_law_changed_right", "_law_joined_right", "law", "check_shape_parts", "check_shape_tables", "check_shape_questions", "check_shape_books", "check_other_books"] : List Str)
def fas : List He.Fa := ([.cls "Shape", .glo "Shape", .mkr "Shape", .meth "Shape" "__contains__", .meth "Shape" "__or__", .meth "Shape" "__eq__", .noat "Shape" "days", .noat "Shape" "indexes", .noat "Shape" "key_names", .noat "Shape" "places", .cls "Part", .glo "Part", .mkr "Part", .noat "Part" "places", .noat "Part" "shape", .cls "Table", .glo "Table", .mkr "Table", .meth "Table" "__getitem__", .noat "Table" "amounts"] : List He.Fa) ++ ([.noat "Table" "shape", .cls "Question", .glo "Question", .mkr "Question", .meth "Question" "__call__", .meth "Question" "__getitem__", .meth "Question" "__eq__", .meth "Question" "__str__", .noat "Question" "part", .noat "Question" "shape", .noat "Question" "weights", .cls "Book", .glo "Book", .mkr "Book", .meth "Book" "with_question", .meth "Book" "without", .meth "Book" "__call__", .meth "Book" "__len__", .meth "Book" "__iter__", .meth "Book" "__contains__"] : List He.Fa) ++ ([.meth "Book" "__getitem__", .meth "Book" "__or__", .meth "Book" "__le__", .meth "Book" "__eq__", .meth "Book" "__str__", .noat "Book" "__bool__", .noat "Book" "_questions", .noat "Book" "shape", .glo "RESERVED", .int "MOST_LETTERS" 8, .int "PIECE" 60, .int "MOST_KEYS" 6, .int "MOST_DAYS" 8, .int "MOST_PLACES" 36] : List He.Fa)
def tups : List (Str × List He.Dv) := [("RESERVED", [.str "days", .str "keys", .str "every", .str "leads", .str "sizes", .str "blocks", .str "pages", .str "cells", .str "buckets", .str "stripes", .str "block", .str "page", .str "cell", .str "bucket", .str "parity", .str "journal", .str "read", .str "given", .str "none", .str "order"])]
def dcts : List (Str × List (Str × He.Dv)) := []
def tabs : List TabN := dcts.map fun p => (p.1, p.2.map (·.1))
/-- the classes of the text that are no errors; their staticmethods -/
def own : List Str := ["Shape", "Part", "Table", "Question", "Book"]
def stat : List (Str × Str) := []
/-- operators of own classes that take numbers or stand in a op= b -/
def ops : List (Str × String) := [("Book", "or")]
def chk (K : PySem.W.Frag) : Bool := clsAll K && (inis.all (fun p => iniB K p.1 p.2) && (noIni.all (fun x => PySem.W.excIn K (He.ga K x) He.veBase "ValueError.__new__") && (frees.all (freeB K) && (fns.all (gloB K) && (fas.all (He.Fa.ok K) && (tups.all (tupB K) && (dcts.all (fun p => He.valsB K (He.ga K p.1) p.2) && (own.all (ownsB K own) && (stat.all (fun p => smB K (He.ga K p.1) p.2) && ops.all (opB K))))))))))
abbrev R : PySem.W.OpenRow := PySem.W.OpenLaw.row PySem.Challenge.rw_rowvault_k20_books_made_and_asked
abbrev hk : PySem.W.Hook := hookRA 4000 chk fn tabs []
def ob (s : PySem.W.SharedT) : AlA := obsRAG 4000 chk fn tabs [] (HandSHeadRun.getT s)
theorem ob_eq (s : PySem.W.SharedT) : ob s = hk.obs s.abs := obsRAG_eq (HandSHeadRun.getT_eq s)
def loose0 : List PySem.Str := ["_wall", "VaultError", "BadInput", "Refused", "NoAnswer", "BadShape", "BadTable", "BadPart", "BadQuestion", "BadBook", "BadPlace", "BadAmount", "BadCount", "BadName", "BadText", "TooMany", "Taken", "NoName", "RESERVED", "MOST_LETTERS", "is_whole", "is_whole_from", "is_name", "PIECE"]
def loose1 : List PySem.Str := ["whole_text", "is_whole_text", "whole_of", "words_of", "Words", "MOST_KEYS", "MOST_DAYS", "MOST_PLACES", "Shape", "are_keys", "take_shape", "is_key_behind", "take_place", "Part", "check_shape", "check_shape_parts", "check_places", "check_other", "check_other_parts", "is_part_of", "take_places", "Table", "check_shape_tables", "check_amounts"]
def loose2 : List PySem.Str := ["check_rows", "check_other_tables", "is_table_of", "times", "times_tables", "take_amounts", "take_weight", "Question", "check_shape_questions", "check_other_questions", "is_question_of", "times_questions", "take_weights", "Book", "check_shape_books", "check_pair", "check_other_books", "take_rows", "take_row", "take_name", "_law_pen", "_law_draw", "_law_pick", "_law_shape"]
def loose3 : List PySem.Str := ["_law_weights", "_law_bare", "_law_sum", "_law_some", "_law_part", "_law_entries", "_law_book", "_law_names", "_law_told_right", "_law_answers_right", "_law_changed_right", "_law_joined_right"]
abbrev loose : List PySem.Str := loose0 ++ loose1 ++ loose2 ++ loose3
end L2.K20
set_option Elab.async false
set_option linter.all false
set_option maxRecDepth 100000
set_option maxHeartbeats 4000000
/-! The run of the top, in parts. -/
namespace L2.K20
open PySem PySem.Spec PyProof.Rows L2.RV
noncomputable abbrev whole (b : Bool) (w : World) (os : PySem.OsState) := HandSHeadRun.endF (HandSHeadRun.stepQ (HandSHeadRun.denQ HandSHeadRun.tabQ) R.prog (fixW w "special-get-raises" b)) 20000 R.prog (fixW w "special-get-raises" b) os
abbrev frA (x : PySem.W.SharedT) : PySem.W.Frag := fragA (HandSHeadRun.getT x) 4000
set_option maxHeartbeats 0 in
theorem rFa (w : World) (os : PySem.OsState) : Option.map (fun x => (HandSHeadRun.looksF R.prog (PySem.W.boot_heap (fixW w "special-get-raises" false).params) x.abs, HandSHeadRun.seenQ (PySem.W.view R.prog [100]) loose (PySem.importedModules R.prog.main.body) (fun s => PySem.W.xlAt (PySem.W.view R.prog [100]) [] s && PySem.W.recOk R.records s) x.abs)) (whole false w os) = some (true, (PySem.W.openGood (PySem.W.view R.prog [100]) loose)) := by
  kernel_rfl
set_option maxHeartbeats 0 in
theorem rFb (w : World) (os : PySem.OsState) : Option.map (fun x => He.tabsB (HandSHeadRun.getT x) [] (frA x) && chk (frA x)) (whole false w os) = some true := by
  kernel_rfl
set_option maxHeartbeats 0 in
theorem rFc (w : World) (os : PySem.OsState) : Option.map (fun x => ((fn.take 36).all (fun d => d.ok (frA x)), (ob x).1.2.take 36, (ob x).2)) (whole false w os) = some (true, (fn.take 36).map He5.DefA.val, tabs.map fun t => some (He.keysIn (fixW w "special-get-raises" false).params t.2)) := by
  kernel_rfl
set_option maxHeartbeats 0 in
theorem rFd (w : World) (os : PySem.OsState) : Option.map (fun x => ((fn.drop 36).all (fun d => d.ok (frA x)), (((ob x).1.2.drop 36).take 20, ((ob x).1.2.drop 36).drop 20))) (whole false w os) = some (true, ((((fn.drop 36).take 20).map He5.DefA.val), (((fn.drop 36).drop 20).map He5.DefA.val))) := by
  kernel_rfl
set_option maxHeartbeats 0 in
theorem rTa (w : World) (os : PySem.OsState) : Option.map (fun x => (HandSHeadRun.looksF R.prog (PySem.W.boot_heap (fixW w "special-get-raises" true).params) x.abs, HandSHeadRun.seenQ (PySem.W.view R.prog [100]) loose (PySem.importedModules R.prog.main.body) (fun s => PySem.W.xlAt (PySem.W.view R.prog [100]) [] s && PySem.W.recOk R.records s) x.abs)) (whole true w os) = some (true, (PySem.W.openGood (PySem.W.view R.prog [100]) loose)) := by
  kernel_rfl
set_option maxHeartbeats 0 in
theorem rTb (w : World) (os : PySem.OsState) : Option.map (fun x => He.tabsB (HandSHeadRun.getT x) [] (frA x) && chk (frA x)) (whole true w os) = some true := by
  kernel_rfl
set_option maxHeartbeats 0 in
theorem rTc (w : World) (os : PySem.OsState) : Option.map (fun x => ((fn.take 36).all (fun d => d.ok (frA x)), (ob x).1.2.take 36, (ob x).2)) (whole true w os) = some (true, (fn.take 36).map He5.DefA.val, tabs.map fun t => some (He.keysIn (fixW w "special-get-raises" true).params t.2)) := by
  kernel_rfl
set_option maxHeartbeats 0 in
theorem rTd (w : World) (os : PySem.OsState) : Option.map (fun x => ((fn.drop 36).all (fun d => d.ok (frA x)), (((ob x).1.2.drop 36).take 20, ((ob x).1.2.drop 36).drop 20))) (whole true w os) = some (true, ((((fn.drop 36).take 20).map He5.DefA.val), (((fn.drop 36).drop 20).map He5.DefA.val))) := by
  kernel_rfl
theorem both {α β γ : Type _} {o : Option α} {f : α → β} {g : α → γ} {b : β} {c : γ} (h : Option.map (fun x => (f x, g x)) o = some (b, c)) : Option.map f o = some b ∧ Option.map g o = some c := by
  cases o with
  | none => cases h
  | some x =>
    have e := Prod.mk.inj (Option.some.inj h)
    exact ⟨congrArg some e.1, congrArg some e.2⟩
theorem glue {o : Option PySem.W.SharedT} {w : World} (rh : Option.map (fun s => HandSHeadRun.looksF R.prog (PySem.W.boot_heap w.params) s.abs) o = some true) (r0 : Option.map (fun s => HandSHeadRun.seenQ (PySem.W.view R.prog [100]) loose (PySem.importedModules R.prog.main.body) (fun s => PySem.W.xlAt (PySem.W.view R.prog [100]) [] s && PySem.W.recOk R.records s) s.abs) o = some (PySem.W.openGood (PySem.W.view R.prog [100]) loose))
    (r1 : Option.map (fun x => He.tabsB (HandSHeadRun.getT x) [] (frA x) && chk (frA x)) o = some true) (r2 : Option.map (fun x => ((fn.take 36).all (fun d => d.ok (frA x)), (ob x).1.2.take 36, (ob x).2)) o = some (true, (fn.take 36).map He5.DefA.val, tabs.map fun t => some (He.keysIn w.params t.2))) (r3 : Option.map (fun x => (fn.drop 36).all (fun d => d.ok (frA x))) o = some true) (r4 : Option.map (fun x => ((ob x).1.2.drop 36).take 20) o = some (((fn.drop 36).take 20).map He5.DefA.val)) (r5 : Option.map (fun x => ((ob x).1.2.drop 36).drop 20) o = some (((fn.drop 36).drop 20).map He5.DefA.val)) :
    Option.map (fun s => (HandSHeadRun.looksF R.prog (PySem.W.boot_heap w.params) s.abs, HandSHeadRun.seenQ (PySem.W.view R.prog [100]) loose (PySem.importedModules R.prog.main.body) (fun s => PySem.W.xlAt (PySem.W.view R.prog [100]) [] s && PySem.W.recOk R.toRowW.records s) s.abs, ob s)) o = some (true, PySem.W.openGood (PySem.W.view R.prog [100]) loose, hk.val w) := by
  cases o with
  | none => cases r0
  | some x =>
    have a1 : HandSHeadRun.looksF R.prog (PySem.W.boot_heap w.params) x.abs = true := Option.some.inj rh
    have a2 := Option.some.inj r0
    have a3 : (He.tabsB (HandSHeadRun.getT x) [] (frA x) && chk (frA x)) = true := Option.some.inj r1
    obtain ⟨c1, c3⟩ := Prod.mk.inj (Option.some.inj r2)
    obtain ⟨c3, b3⟩ := Prod.mk.inj c3
    have c2 : (fn.drop 36).all (fun d => d.ok (frA x)) = true := Option.some.inj r3
    have c4 : ((ob x).1.2.drop 36).take 20 = ((fn.drop 36).take 20).map He5.DefA.val := Option.some.inj r4
    have c5 : ((ob x).1.2.drop 36).drop 20 = ((fn.drop 36).drop 20).map He5.DefA.val := Option.some.inj r5
    have b1 : fn.all (fun d => d.ok (frA x)) = true := by
      rw [← List.take_append_drop 36 fn, List.all_append, c1, c2]
      rfl
    have b2 : (ob x).1.2 = fn.map He5.DefA.val := by
      have c6 := List.take_append_drop 20 ((ob x).1.2.drop 36)
      rw [c4, c5, ← List.map_append, List.take_append_drop] at c6
      have c7 := List.take_append_drop 36 (ob x).1.2
      rw [c3, ← c6, ← List.map_append, List.take_append_drop] at c7
      exact c7.symm
    have e : ob x = valRA fn tabs w := by
      refine Prod.ext (Prod.ext ?_ b2) b3
      obtain ⟨t, c⟩ := ba2 a3
      show (He.tabsB (HandSHeadRun.getT x) [] (frA x) && (chk (frA x) && fn.all fun d => d.ok (frA x))) = true
      rw [t, c, b1]
      rfl
    rw [Option.map_some, a1, e]
    refine congrArg some (Prod.ext rfl (Prod.ext a2 rfl))
theorem run1 (b : Bool) (w : World) : HandSHeadRun.RunEq R (PySem.W.view R.prog [100]) hk ob 20000 loose (fixW w "special-get-raises" b) := by
  intro os
  cases b
  · exact glue (both (rFa w os)).1 (both (rFa w os)).2 (rFb w os) (rFc w os) (both (rFd w os)).1 (both (both (rFd w os)).2).1 (both (both (rFd w os)).2).2
  · exact glue (both (rTa w os)).1 (both (rTa w os)).2 (rTb w os) (rTc w os) (both (rTd w os)).1 (both (both (rTd w os)).2).1 (both (both (rTd w os)).2).2
theorem run (w : World) : HandSHeadRun.RunEq R (PySem.W.view R.prog [100]) hk ob 20000 loose w := by
  rw [fixW_eq w "special-get-raises"]
  exact run1 _ _
end L2.K20
set_option Elab.async false
set_option linter.all false
set_option maxRecDepth 100000
set_option maxHeartbeats 4000000
/-! A caught exception is kept: behind the try it stands as a value. -/
namespace L2.RV
open PySem PySem.Spec PyProof.Rows
/-- an exception of the class cls at a, its dict at d -/
def exk (cls : Value) (d : Option Addr) (a : Addr) : HO := .ext fun h => ∃ (oe : Obj) (vs : Array Value), h.get? a = some oe ∧ Zc cls d oe ∧ oe.data = .fields vs
theorem exk_ok {P : Program} {w : World} {H : Hp} {h : Heap} {a : Addr} {cls : Value} {d : Option Addr} {oe : Obj} {vs : Array Value} (e : h.get? a = some oe) (z : Zc cls d oe) (hd : oe.data = .fields vs) : ObjOk P w H h a (exk cls d a) :=
  ⟨⟨oe, vs, e, z, hd⟩, ⟨oe, e⟩, fun _ _ ⟨o, v, e1, z1, d1⟩ k => ⟨o, v, k _ e1, z1, d1⟩⟩
section
variable {X : Cx} {pins : List (Addr × Obj)} {σ : L2.St} {H : Hp} {s : Shared}
/-- a thing that is new since the entry, and not tracked as yet, is tracked from now on -/
theorem track {a : Addr} {o : HO} (I : Inv X pins σ H s) (h0 : X.s_0.heap.get? a = none) (hn : H a = none) (nl : a ≠ X.env.locals) (nc : ∀ x c, X.env.cells.lookup x = some c → c ≠ a) (np : ∀ p ∈ X.pn ++ pins, p.1 ≠ a)
    (new : ObjOk X.prog X.w (upd H a o) s.heap a o) : Inv X pins σ (upd H a o) s where
  ok := I.ok
  os := I.os
  bare := I.bare
  base := by
    have keep : ∀ b u, H b = some u → upd H a o b = some u := fun b u z => by
      rw [upd_ne (ne_of_none z hn)]
      exact z
    refine ⟨I.base.keep, I.base.slot, fun b u e n hx => ?_, I.base.there, fun b xs e => keep _ _ (I.base.tups b xs e), fun b x u e => keep _ _ (I.base.frzs b x u e), fun b ps e => ?_⟩
    · have ne : b ≠ a := fun z => by
        rw [z, h0] at e
        cases e
      rw [upd_ne ne]
      exact I.base.free b u e n hx
    · obtain ⟨more, z⟩ := I.base.tbls b ps e
      exact ⟨more, keep _ _ z⟩
  loc := I.loc
  cell := I.cell
  free := by
    rw [upd_ne (Ne.symm nl)]
    exact I.free
  freeC := fun x c e => by
    rw [upd_ne (nc x c e)]
    exact I.freeC x c e
  pin := fun p hp => by
    obtain ⟨a1, a2, a3⟩ := I.pin p hp
    refine ⟨a1, ?_, a3⟩
    rw [upd_ne (np p hp)]
    exact a2
  hok := fun b u e => by
    by_cases hb : b = a
    · subst hb
      rw [upd_same] at e
      cases e
      exact new
    · rw [upd_ne hb] at e
      refine (I.hok b u e).stay (fun _ _ _ z => z) (fun c z => ?_) (fun c xs z => ?_)
      · rw [upd_ne (ne_of_none z hn)]
        exact z
      · rw [upd_ne (ne_of_none z hn)]
        exact z
  len := I.len
end
/-- the wish of a try whose suite keeps what it caught -/
def wKeep (K : PySem.W.Frag) (c : Value) (i : Nat) (ts : Addr → Value → Option Addr → TS) (Wout : WX) (D : Ends) : WX := fun cls d σ H =>
  ∃ b, PySem.W.exmOne K cls c = some b ∧ (b = true → ∀ a, H a = none → ts a cls d { nx := fun σ' H' => H' a = none → D.nx (σ'.set i none) (upd H' a (exk cls d a)), rt := fun v H' => D.rt v H', bk := fun σ' H' => D.bk (σ'.set i none) H', ct := fun σ' H' => D.ct (σ'.set i none) H' } (σ.set i (some (.ref a))) H) ∧
    (b = false → Wout cls d σ H)
section
variable {X : Cx} {x n : Str} {c : Value} {i : Nat} {body suite : List Stmt} {b₀ : Stmt} {np pos pos' : Pos} {tb : WX → TS} {ts : Addr → Value → Option Addr → TS} {Wout : WX}
theorem ps_try_keep (hex : X.ex = []) (hs : X.stack = X.env :: X.outer) (hf : X.env.frame = some X.env.locals) (hN : X.N.Nodup) (hi : X.N[i]? = some n) (hln : X.env.kindOf n = some .local) (hc : Names X x c) (tk : Takes X Wout)
    (hb : ∀ (W : WX) (pn : List (Addr × Obj)) (xe : Value → Shared → Prop), Takes (X.tr pn xe) W → PassesOwn (model X.prog X.w) X.A X.env xe → PSs (X.tr pn xe) body (tb W))
    (hsu : ∀ (a : Addr) (oe : Obj) (cls : Value) (d : Option Addr) (pn : List (Addr × Obj)), Zc cls d oe → (∃ vs, oe.data = .fields vs) → PSs (X.suite a ((a, oe) :: pn)) (b₀ :: suite) (ts a cls d)) :
    PS X (.Try body [.ExceptHandler (some (.Name x np)) (some n) (b₀ :: suite) pos'] [] [] pos) (fun D σ H => tb (wKeep X.K c i ts Wout D) D σ H) := by
  refine ⟨fun pins s σ H D I h => ?_⟩
  have ok := I.ok
  have hfr : X.A.frames = some (X.env :: X.outer) := by rw [ok.frames, hs]
  have hloc : Loc X.env.scope n := .inl hln
  refine wpAny_Try_except ?_
  refine wpAny_mono ((hb (wKeep X.K c i ts Wout D) (X.pn ++ pins) (fun e s₁ => wpAny (model X.prog X.w) X.A (noteFrame e X.env) (fun _ s₂ => wpAny (model X.prog X.w) X.A (setFlight e none) (fun _ s₃ =>
    wpAny (model X.prog X.w) X.A (handleBy e X.env [.ExceptHandler (some (.Name x np)) (some n) (b₀ :: suite) pos']) (SP X pins D) X.xe s₃) X.xe s₂) X.xe s₁) (fun u s' xx => ?_) PassesOwn.looking).run [] s σ H D (I.toTry _) h) (fun f s1 hsp => ?_) (fun e s1 he => he)
  · obtain ⟨a, B, sI, pins', σ', H', cls, d, rfl, J', nb, up, sky, na, os, ag, b, hb1, hyes, hno⟩ := xx
    have J : Inv X pins σ' H' sI := J'.ofTry ok
    have sky' : Sky B (X.env :: X.outer) a (Zc cls d) X.env.locals s'.heap := by rw [← hs]; exact sky
    have bn : B.get? a = none := by
      rcases sky' with z | z | z
      · exact z.2.1
      · exact z.2.1
      · exact z.2.1
    show wpAny _ X.A (noteFrame (.ref a) X.env) _ _ _
    refine Sky.land Zc.steady hfr hf sky' fun h3 fl3 up3 => ?_
    have J3 : Inv X pins σ' H' { s' with heap := h3 } := J.landed nb fl3.1 (up.trans up3) os ag
    obtain ⟨oe3, vs3, he3, hz3, hd3⟩ := fl3.there
    have notFr : ∀ {h : Heap} {o : Obj} {vs : Array Value}, h.FunFrames B (X.env :: X.outer) → h.get? a = some o → o.data = .fields vs → a ∉ frs (X.env :: X.outer) := fun {h o vs} ff e dd hm => by
      obtain ⟨_, o', e', hnf⟩ := ff.mem hm
      rw [e] at e'; cases e'
      exact hnf _ dd
    have nfr := notFr fl3.2.2.1 he3 hd3
    have aI : sI.heap.get? a = none := by
      cases z : sI.heap.get? a with
      | none => rfl
      | some o =>
        have y := nb a o z (by rw [hs]; exact nfr)
        rw [bn] at y
        cases y
    have a0 : X.s_0.heap.get? a = none := by
      cases z : X.s_0.heap.get? a with
      | none => rfl
      | some o =>
        obtain ⟨o', y⟩ := J.base.there a o z (by rw [hex]; simp)
        rw [aI] at y
        cases y
    have nL : a ≠ X.env.locals := fun z => nfr (List.mem_filterMap.mpr ⟨X.env, List.mem_cons_self, by rw [hf, z]⟩)
    have nF : a ∉ X.fs := fun hm => by
      obtain ⟨e, he, q⟩ := List.mem_filterMap.mp hm
      exact nfr (List.mem_filterMap.mpr ⟨e, List.mem_cons_of_mem _ he, q⟩)
    have nP : ∀ p ∈ X.pn ++ pins, p.1 ≠ a := fun p hp z => by
      have y := (J.pin p hp).1
      rw [z, aI] at y
      cases y
    have S3 := J3.suite he3 hd3 na nL nF
    refine wpAny_handleBy_cons (codeAny_handlers_test ?_) (by intro q; cases q)
    have LT : PySem.W.Looks (model X.prog X.w) h3 (typeOf (.ref a)) cls := fun A Q E s k q => wpAny_typeOf_ref (k _ _ he3) (by rw [hz3.1]; exact q)
    have LM := PySem.W.exm_one (M := model X.prog X.w) (J3.kIn) LT hb1
    have test : ∀ {Q : Value → Shared → Prop} {E : Value → Shared → Prop}, Q c { s' with heap := h3 } → wpAny (model X.prog X.w) (X.A.mark (some (.ref a))) (eval (.Name x np) X.env) Q E { s' with heap := h3 } := fun {Q E} q => by
      obtain ⟨hg, hdbg, hm | ⟨hm, hv, hnn⟩⟩ := hc
      · exact ld_glob (X := X.suite a ((a, oe3) :: (X.pn ++ pins))) S3 hg hm q hdbg
      · exact ld_blt (X := X.suite a ((a, oe3) :: (X.pn ++ pins))) S3 hg hm hv q hnn hdbg
    refine test (LM.here ?_)
    cases b with
    | true =>
      refine codeAny_handlers_suite_as ?_
      refine HandSPX.lands_againZ fl3 fun h4 fl4 up4 => ?_
      have J4 : Inv X pins σ' H' { s' with heap := h4 } := J.landed nb fl4.1 ((up.trans up3).trans up4) os ag
      obtain ⟨oe4, vs4, he4, hz4, hd4⟩ := fl4.there
      have S4 := J4.suite he4 hd4 na nL nF
      refine store_ok (X := X.suite a ((a, oe4) :: (X.pn ++ pins))) (v := .ref a) S4 hN hi hloc rfl (fun s5 S5 => ?_) (.inr hln)
      refine wpAny_mono ((hsu a oe4 cls d (X.pn ++ pins) hz4 ⟨_, hd4⟩).run [] s5 _ H' _ S5 (hyes rfl a na)) (fun f s6 hsp => ?_) (fun _ _ z => False.elim z)
      have end_ : ∀ {σ6 : L2.St} {H6 : Hp} {Q : Shared → Prop}, Inv X pins σ6 H6 s6 → (∀ s7, Inv X pins (σ6.set i none) H6 s7 → Q s7) →
          wpAny (model X.prog X.w) X.A (do bindName X.env n .none; unbindBehindTheSuite X.env n pos') (fun _ s7 => Q s7) X.xe s6 := fun {σ6 H6 Q} S6 hq => gone_ok S6 hN hi hln hq
      cases f with
      | next =>
        obtain ⟨σ6, H6, S6, q6⟩ := hsp
        obtain ⟨p1, p2, p3, p4, p5⟩ := S6.pin (a, oe4) (by rw [List.append_nil]; exact List.mem_cons_self)
        have J6 := S6.unsuite ok
        have nC : ∀ y cc, X.env.cells.lookup y = some cc → cc ≠ a := fun y cc e z => by
          obtain ⟨v, hcell⟩ := J6.cell y cc e
          rw [z] at hcell
          obtain ⟨oc, g1, g2⟩ := hcell
          have g1' : s6.heap.get? a = some oc := g1
          have p1' : s6.heap.get? a = some oe4 := p1
          rw [p1'] at g1'
          cases g1'
          exact p5 v g2
        have T6 := track J6 a0 p2 nL nC nP (exk_ok (cls := cls) (d := d) p1 hz4 hd4)
        exact end_ T6 fun s7 J7 => ⟨_, _, J7, q6 p2⟩
      | brk =>
        obtain ⟨σ6, H6, S6, q6⟩ := hsp
        exact end_ (S6.unsuite ok) fun s7 J7 => ⟨_, _, J7, q6⟩
      | cont =>
        obtain ⟨σ6, H6, S6, q6⟩ := hsp
        exact end_ (S6.unsuite ok) fun s7 J7 => ⟨_, _, J7, q6⟩
      | ret u =>
        obtain ⟨v6, σ6, H6, S6, r6, q6⟩ := hsp
        exact end_ (S6.unsuite ok) fun s7 J7 => ⟨_, _, _, J7, r6, q6⟩
    | false =>
      show wpAny _ X.A (handleBy (.ref a) X.env []) _ _ _
      refine wpAny_handleBy_nil ?_
      obtain ⟨k1, k2, k3, oe, vs, T, oT, ts', he, hz, hd, h1, hr⟩ := id fl3
      unfold PySem.passOn
      refine wpAny_bind (wpAny_field he hd h1 ?_)
      rw [if_neg (show ¬ ((Value.ref T == Value.none) = true) from by simp)]
      have fin : wpAny (model X.prog X.w) X.A (setFlight (.ref a) X.env.frame) (fun _ s4 => wpAny (model X.prog X.w) X.A (throw (.ref a) : Sem Flow) (SP X pins D) X.xe s4) X.xe { s' with heap := h3 } := by
        rw [hf]
        refine HandSPX.setFlight_upZ fl3 fun h4 hh4 up4 => wpAny_throw (tk _ _ ?_)
        exact ⟨a, B, sI, pins, σ', H', cls, d, rfl, J, nb, (up.trans up3).trans up4, .inr (.inr (by rw [hs]; exact hh4)), na, os, ag, hno rfl⟩
      first
        | exact wpAny_bind (wpAny_pure (wpAny_bind fin))
        | exact wpAny_bind fin
  · cases f with
    | next =>
      obtain ⟨σ', H', J', q⟩ := hsp
      exact wpAny_execs_nil ⟨σ', H', J'.ofTry ok, q⟩
    | brk =>
      obtain ⟨σ', H', J', q⟩ := hsp
      exact ⟨σ', H', J'.ofTry ok, q⟩
    | cont =>
      obtain ⟨σ', H', J', q⟩ := hsp
      exact ⟨σ', H', J'.ofTry ok, q⟩
    | ret u =>
      obtain ⟨v, σ', H', J', r, q⟩ := hsp
      exact ⟨v, σ', H', J'.ofTry ok, r, q⟩
end
/-- a caught error stands at e, of the class at C; of its fields these are known -/
def ErrK (H : Hp) (e C : Addr) (l : List (Str × V)) : Prop := ∃ d, H e = some (exk (.ref C) (some d) e) ∧ ∃ fs, H d = some (.xd fs) ∧ ∀ f v, l.lookup f = some v → fs.lookup f = some v
theorem ErrK.same {H H' : Hp} {e C : Addr} {l : List (Str × V)} (x : ErrK H e C l) (s : Same H H') : ErrK H' e C l := by
  obtain ⟨d, a, fs, b, c⟩ := x
  exact ⟨d, s _ _ a, fs, s _ _ b, c⟩
section
variable {X : Cx} {pins : List (Addr × Obj)} {σ : L2.St} {H : Hp} {s : Shared} {e C : Addr} {l : List (Str × V)}
theorem ErrK.inst (x : ErrK H e C l) (I : Inv X pins σ H s) : ∃ ox o, PySem.W.InstAt s.heap e ox C (some o) ∧ ∀ f v, l.lookup f = some v → ∃ u, PySem.W.lookIn f o = some (some u) ∧ RelV v u := by
  obtain ⟨d, a, fs, b, c⟩ := x
  obtain ⟨⟨oe, vs, e1, z1, d1⟩, _, _⟩ := (show ObjOk X.prog X.w H s.heap e (exk (.ref C) (some d) e) from I.hok _ _ a)
  obtain ⟨mA, hns, rel⟩ := (show ObjOk X.prog X.w H s.heap d (.xd fs) from I.hok _ _ b)
  have hns1 : s.heap.Ns1 d mA := hns
  obtain ⟨o, hd, hl⟩ := lookIn_ns hns1
  refine ⟨oe, o, ⟨e1, z1.1, by unfold PySem.W.notCls; rw [d1], by rw [z1.2]; exact hd⟩, fun f v lk => ?_⟩
  have r := rel f
  rw [c f v lk] at r
  obtain ⟨u, hu, ru⟩ := RelO.some_of (v := v) (o := mA f) r
  exact ⟨u, by rw [hl, hu], ru⟩
end
/-- isinstance(e, c) of a caught error -/
def rIsK (K : PySem.W.Frag) : List V → Hp → VK → Prop := fun xs H Q => ∃ (e C : Addr) (l : List (Str × V)) (c : V) (cv : Value) (b : Bool), xs = [.ref e, c] ∧ ErrK H e C l ∧ ExcC K C ∧ (∀ u, RelV c u → u = cv) ∧ PySem.W.kitOne K (.ref C) cv = some b ∧ Q (.bl b) H
theorem call_isK {X : Cx} : CallR X (.builtin "isinstance") (rIsK X.K) := by
  intro pins s σ H xs us Q I r h
  obtain ⟨e, C, l, c, cv, b, rfl, at_, cl, hcv, k, q⟩ := h
  obtain ⟨u, u', rfl, ru, ru'⟩ := vals2 r
  cases ru
  obtain rfl := hcv _ ru'
  obtain ⟨ox, o, J, _⟩ := at_.inst I
  exact PySem.W.kia_one (kitE cl) I.kIn J k (fun z => nomatch z) fun tk => ⟨.bl b, H, I.kept (t' := tk) fun _ _ z => z, rfl, q⟩
/-- e.f of a caught error -/
def tErrK (K : PySem.W.Frag) (f : Str) (te : TE) : TE := fun σ H Q => te σ H fun x H1 => ∃ (e C : Addr) (l : List (Str × V)) (v : V), x = .ref e ∧ ErrK H1 e C l ∧ XfC K C ∧ PySem.W.findIn K (.ref C) f = some none ∧ l.lookup f = some v ∧ Q v H1
theorem pe_errK {X : Cx} {e : Expr} {te : TE} {pos : Pos} {f : Str} (he : PE X e te) (hb : attributeBase e f X.env (eval e X.env) = eval e X.env := by rfl) : PE X (.Attribute e f pos) (tErrK X.K f te) := by
  constructor
  intro pins s σ H Q I h
  apply attr_of hb
  refine thn (he.run pins s σ H _ I h) ?_
  rintro u s1 ⟨x, H1, I1, rx, e1, C, l, v, rfl, at_, T, no, lk, q⟩
  cases rx
  obtain ⟨ox, o, J, look⟩ := at_.inst I1
  obtain ⟨u, hu, ru⟩ := look _ _ lk
  exact HandSPX.exc_get I1.kIn J T.ga T.gg T.exC (PySem.W.findObj_own T.hdC no rfl hu) (handed_of ru) ⟨v, H1, I1.tok _, ru, q⟩
end L2.RV
set_option Elab.async false
set_option linter.all false
set_option maxRecDepth 100000
set_option maxHeartbeats 4000000
/-! What the top has left. -/
namespace L2.K20
open PySem PySem.Spec PyProof.Rows L2.RV
/-- the i-th error class stands here -/
def ca (K : PySem.W.Frag) (i : Nat) : Addr := He.ga K (nmAt i)
section
variable {w : World} {K : PySem.W.Frag} {h : Heap} {mg : Str → Option Value}
structure TopN (K : PySem.W.Frag) (mg : Str → Option Value) : Prop where
  n_ValueError : mg "ValueError" = none
  n_abs : mg "abs" = none
  n_all : mg "all" = none
  n_bool : mg "bool" = none
  n_dict : mg "dict" = none
  n_divmod : mg "divmod" = none
  n_enumerate : mg "enumerate" = none
  n_int : mg "int" = none
  n_isinstance : mg "isinstance" = none
  n_iter : mg "iter" = none
  n_len : mg "len" = none
  n_list : mg "list" = none
  n_max : mg "max" = none
  n_range : mg "range" = none
  n_set : mg "set" = none
  n_sorted : mg "sorted" = none
  n_str : mg "str" = none
  n_sum : mg "sum" = none
  n_tuple : mg "tuple" = none
theorem TopN.of (X : K.In h) (G : h.Ns mainGlobals mg) (a : frees.all (freeB K) = true) : TopN K mg := by
  exact {
    n_ValueError := freeB_ok X G (List.all_eq_true.mp a _ (List.mem_of_getElem? (i := 0) (by kernel_rfl)))
    n_abs := freeB_ok X G (List.all_eq_true.mp a _ (List.mem_of_getElem? (i := 1) (by kernel_rfl)))
    n_all := freeB_ok X G (List.all_eq_true.mp a _ (List.mem_of_getElem? (i := 2) (by kernel_rfl)))
    n_bool := freeB_ok X G (List.all_eq_true.mp a _ (List.mem_of_getElem? (i := 3) (by kernel_rfl)))
    n_dict := freeB_ok X G (List.all_eq_true.mp a _ (List.mem_of_getElem? (i := 4) (by kernel_rfl)))
    n_divmod := freeB_ok X G (List.all_eq_true.mp a _ (List.mem_of_getElem? (i := 5) (by kernel_rfl)))
    n_enumerate := freeB_ok X G (List.all_eq_true.mp a _ (List.mem_of_getElem? (i := 6) (by kernel_rfl)))
    n_int := freeB_ok X G (List.all_eq_true.mp a _ (List.mem_of_getElem? (i := 7) (by kernel_rfl)))
    n_isinstance := freeB_ok X G (List.all_eq_true.mp a _ (List.mem_of_getElem? (i := 8) (by kernel_rfl)))
    n_iter := freeB_ok X G (List.all_eq_true.mp a _ (List.mem_of_getElem? (i := 9) (by kernel_rfl)))
    n_len := freeB_ok X G (List.all_eq_true.mp a _ (List.mem_of_getElem? (i := 10) (by kernel_rfl)))
    n_list := freeB_ok X G (List.all_eq_true.mp a _ (List.mem_of_getElem? (i := 11) (by kernel_rfl)))
    n_max := freeB_ok X G (List.all_eq_true.mp a _ (List.mem_of_getElem? (i := 12) (by kernel_rfl)))
    n_range := freeB_ok X G (List.all_eq_true.mp a _ (List.mem_of_getElem? (i := 13) (by kernel_rfl)))
    n_set := freeB_ok X G (List.all_eq_true.mp a _ (List.mem_of_getElem? (i := 14) (by kernel_rfl)))
    n_sorted := freeB_ok X G (List.all_eq_true.mp a _ (List.mem_of_getElem? (i := 15) (by kernel_rfl)))
    n_str := freeB_ok X G (List.all_eq_true.mp a _ (List.mem_of_getElem? (i := 16) (by kernel_rfl)))
    n_sum := freeB_ok X G (List.all_eq_true.mp a _ (List.mem_of_getElem? (i := 17) (by kernel_rfl)))
    n_tuple := freeB_ok X G (List.all_eq_true.mp a _ (List.mem_of_getElem? (i := 18) (by kernel_rfl))) }
structure TopE (K : PySem.W.Frag) (mg : Str → Option Value) : Prop where
  c_VaultError : mg "VaultError" = some (.ref (ca K 0))
  c_BadInput : mg "BadInput" = some (.ref (ca K 1))
  c_Refused : mg "Refused" = some (.ref (ca K 2))
  c_NoAnswer : mg "NoAnswer" = some (.ref (ca K 3))
  c_BadShape : mg "BadShape" = some (.ref (ca K 4))
  c_BadTable : mg "BadTable" = some (.ref (ca K 5))
  c_BadPart : mg "BadPart" = some (.ref (ca K 6))
  c_BadQuestion : mg "BadQuestion" = some (.ref (ca K 7))
  c_BadBook : mg "BadBook" = some (.ref (ca K 8))
  c_BadPlace : mg "BadPlace" = some (.ref (ca K 9))
  c_BadAmount : mg "BadAmount" = some (.ref (ca K 10))
  c_BadCount : mg "BadCount" = some (.ref (ca K 11))
  c_BadName : mg "BadName" = some (.ref (ca K 12))
  c_BadText : mg "BadText" = some (.ref (ca K 13))
  c_TooMany : mg "TooMany" = some (.ref (ca K 14))
  c_Taken : mg "Taken" = some (.ref (ca K 15))
  c_NoName : mg "NoName" = some (.ref (ca K 16))
  ox : ∀ i, i < 17 → OexC K (ca K i)
  ex : ∀ i, i < 17 → ExcC K (ca K i) ∧ XfC K (ca K i)
theorem TopE.of (X : K.In h) (G : h.Ns mainGlobals mg) (a : clsAll K = true) : TopE K mg := by
  have one : ∀ i, i < 17 → gloB K (nmAt i) = true ∧ clsB K (ca K i) = true := fun i hi => ba2 (List.all_eq_true.mp a i (List.mem_range.mpr hi))
  have glo : ∀ i, i < 17 → mg (nmAt i) = some (.ref (ca K i)) := fun i hi => gloB_ok X G (one i hi).1
  exact {
    c_VaultError := glo 0 (by decide)
    c_BadInput := glo 1 (by decide)
    c_Refused := glo 2 (by decide)
    c_NoAnswer := glo 3 (by decide)
    c_BadShape := glo 4 (by decide)
    c_BadTable := glo 5 (by decide)
    c_BadPart := glo 6 (by decide)
    c_BadQuestion := glo 7 (by decide)
    c_BadBook := glo 8 (by decide)
    c_BadPlace := glo 9 (by decide)
    c_BadAmount := glo 10 (by decide)
    c_BadCount := glo 11 (by decide)
    c_BadName := glo 12 (by decide)
    c_BadText := glo 13 (by decide)
    c_TooMany := glo 14 (by decide)
    c_Taken := glo 15 (by decide)
    c_NoName := glo 16 (by decide)
    ox := fun i hi => (clsB_ok (one i hi).2).1
    ex := fun i hi => (clsB_ok (one i hi).2).2 }
structure TopX (K : PySem.W.Frag) (mg : Str → Option Value) : Prop where
  x_VaultError : PySem.W.excIn K (ca K 0) He.veBase "ValueError.__new__" = true
  x_BadInput : PySem.W.excIn K (ca K 1) He.veBase "ValueError.__new__" = true
  x_Refused : PySem.W.excIn K (ca K 2) He.veBase "ValueError.__new__" = true
  x_NoAnswer : PySem.W.excIn K (ca K 3) He.veBase "ValueError.__new__" = true
theorem TopX.of (X : K.In h) (G : h.Ns mainGlobals mg) (a : ∀ x, x ∈ noIni → PySem.W.excIn K (He.ga K x) He.veBase "ValueError.__new__" = true) : TopX K mg := by
  exact {
    x_VaultError := a _ (List.mem_of_getElem? (i := 0) (by kernel_rfl))
    x_BadInput := a _ (List.mem_of_getElem? (i := 1) (by kernel_rfl))
    x_Refused := a _ (List.mem_of_getElem? (i := 2) (by kernel_rfl))
    x_NoAnswer := a _ (List.mem_of_getElem? (i := 3) (by kernel_rfl)) }
structure TopF0 (K : PySem.W.Frag) (mg : Str → Option Value) : Prop where
  k_Shape : Cls K (He.ga K "Shape")
  g_Shape : mg "Shape" = some (.ref (He.ga K "Shape"))
  m_Shape : Mk K (He.ga K "Shape") (He.ma K (He.ga K "Shape") "__init__")
  m_Shape___contains__ : Meth K (He.ga K "Shape") "__contains__" (He.ma K (He.ga K "Shape") "__contains__")
  m_Shape___or__ : Meth K (He.ga K "Shape") "__or__" (He.ma K (He.ga K "Shape") "__or__")
  m_Shape___eq__ : Meth K (He.ga K "Shape") "__eq__" (He.ma K (He.ga K "Shape") "__eq__")
  a_Shape_days : NoAttr K (He.ga K "Shape") "days"
  a_Shape_indexes : NoAttr K (He.ga K "Shape") "indexes"
  a_Shape_key_names : NoAttr K (He.ga K "Shape") "key_names"
  a_Shape_places : NoAttr K (He.ga K "Shape") "places"
  k_Part : Cls K (He.ga K "Part")
  g_Part : mg "Part" = some (.ref (He.ga K "Part"))
theorem TopF0.of (X : K.In h) (G : h.Ns mainGlobals mg) (a : ∀ f, f ∈ fas → He.Fa.ok K f = true) : TopF0 K mg := by
  exact {
    k_Shape := He.cls_ok (a _ (List.mem_of_getElem? (i := 0) (by kernel_rfl)))
    g_Shape := He.glo_ok X G (a _ (List.mem_of_getElem? (i := 1) (by kernel_rfl)))
    m_Shape := He.mkr_ok (a _ (List.mem_of_getElem? (i := 2) (by kernel_rfl)))
    m_Shape___contains__ := He.meth_ok (a _ (List.mem_of_getElem? (i := 3) (by kernel_rfl)))
    m_Shape___or__ := He.meth_ok (a _ (List.mem_of_getElem? (i := 4) (by kernel_rfl)))
    m_Shape___eq__ := He.meth_ok (a _ (List.mem_of_getElem? (i := 5) (by kernel_rfl)))
    a_Shape_days := He.noat_ok (a _ (List.mem_of_getElem? (i := 6) (by kernel_rfl)))
    a_Shape_indexes := He.noat_ok (a _ (List.mem_of_getElem? (i := 7) (by kernel_rfl)))
    a_Shape_key_names := He.noat_ok (a _ (List.mem_of_getElem? (i := 8) (by kernel_rfl)))
    a_Shape_places := He.noat_ok (a _ (List.mem_of_getElem? (i := 9) (by kernel_rfl)))
    k_Part := He.cls_ok (a _ (List.mem_of_getElem? (i := 10) (by kernel_rfl)))
    g_Part := He.glo_ok X G (a _ (List.mem_of_getElem? (i := 11) (by kernel_rfl))) }
structure TopF1 (K : PySem.W.Frag) (mg : Str → Option Value) : Prop where
  m_Part : Mk K (He.ga K "Part") (He.ma K (He.ga K "Part") "__init__")
  a_Part_places : NoAttr K (He.ga K "Part") "places"
  a_Part_shape : NoAttr K (He.ga K "Part") "shape"
  k_Table : Cls K (He.ga K "Table")
  g_Table : mg "Table" = some (.ref (He.ga K "Table"))
  m_Table : Mk K (He.ga K "Table") (He.ma K (He.ga K "Table") "__init__")
  m_Table___getitem__ : Meth K (He.ga K "Table") "__getitem__" (He.ma K (He.ga K "Table") "__getitem__")
  a_Table_amounts : NoAttr K (He.ga K "Table") "amounts"
  a_Table_shape : NoAttr K (He.ga K "Table") "shape"
  k_Question : Cls K (He.ga K "Question")
  g_Question : mg "Question" = some (.ref (He.ga K "Question"))
  m_Question : Mk K (He.ga K "Question") (He.ma K (He.ga K "Question") "__init__")
theorem TopF1.of (X : K.In h) (G : h.Ns mainGlobals mg) (a : ∀ f, f ∈ fas → He.Fa.ok K f = true) : TopF1 K mg := by
  exact {
    m_Part := He.mkr_ok (a _ (List.mem_of_getElem? (i := 12) (by kernel_rfl)))
    a_Part_places := He.noat_ok (a _ (List.mem_of_getElem? (i := 13) (by kernel_rfl)))
    a_Part_shape := He.noat_ok (a _ (List.mem_of_getElem? (i := 14) (by kernel_rfl)))
    k_Table := He.cls_ok (a _ (List.mem_of_getElem? (i := 15) (by kernel_rfl)))
    g_Table := He.glo_ok X G (a _ (List.mem_of_getElem? (i := 16) (by kernel_rfl)))
    m_Table := He.mkr_ok (a _ (List.mem_of_getElem? (i := 17) (by kernel_rfl)))
    m_Table___getitem__ := He.meth_ok (a _ (List.mem_of_getElem? (i := 18) (by kernel_rfl)))
    a_Table_amounts := He.noat_ok (a _ (List.mem_of_getElem? (i := 19) (by kernel_rfl)))
    a_Table_shape := He.noat_ok (a _ (List.mem_of_getElem? (i := 20) (by kernel_rfl)))
    k_Question := He.cls_ok (a _ (List.mem_of_getElem? (i := 21) (by kernel_rfl)))
    g_Question := He.glo_ok X G (a _ (List.mem_of_getElem? (i := 22) (by kernel_rfl)))
    m_Question := He.mkr_ok (a _ (List.mem_of_getElem? (i := 23) (by kernel_rfl))) }
structure TopF2 (K : PySem.W.Frag) (mg : Str → Option Value) : Prop where
  m_Question___call__ : Meth K (He.ga K "Question") "__call__" (He.ma K (He.ga K "Question") "__call__")
  m_Question___getitem__ : Meth K (He.ga K "Question") "__getitem__" (He.ma K (He.ga K "Question") "__getitem__")
  m_Question___eq__ : Meth K (He.ga K "Question") "__eq__" (He.ma K (He.ga K "Question") "__eq__")
  m_Question___str__ : Meth K (He.ga K "Question") "__str__" (He.ma K (He.ga K "Question") "__str__")
  a_Question_part : NoAttr K (He.ga K "Question") "part"
  a_Question_shape : NoAttr K (He.ga K "Question") "shape"
  a_Question_weights : NoAttr K (He.ga K "Question") "weights"
  k_Book : Cls K (He.ga K "Book")
  g_Book : mg "Book" = some (.ref (He.ga K "Book"))
  m_Book : Mk K (He.ga K "Book") (He.ma K (He.ga K "Book") "__init__")
  m_Book_with_question : Meth K (He.ga K "Book") "with_question" (He.ma K (He.ga K "Book") "with_question")
  m_Book_without : Meth K (He.ga K "Book") "without" (He.ma K (He.ga K "Book") "without")
theorem TopF2.of (X : K.In h) (G : h.Ns mainGlobals mg) (a : ∀ f, f ∈ fas → He.Fa.ok K f = true) : TopF2 K mg := by
  exact {
    m_Question___call__ := He.meth_ok (a _ (List.mem_of_getElem? (i := 24) (by kernel_rfl)))
    m_Question___getitem__ := He.meth_ok (a _ (List.mem_of_getElem? (i := 25) (by kernel_rfl)))
    m_Question___eq__ := He.meth_ok (a _ (List.mem_of_getElem? (i := 26) (by kernel_rfl)))
    m_Question___str__ := He.meth_ok (a _ (List.mem_of_getElem? (i := 27) (by kernel_rfl)))
    a_Question_part := He.noat_ok (a _ (List.mem_of_getElem? (i := 28) (by kernel_rfl)))
    a_Question_shape := He.noat_ok (a _ (List.mem_of_getElem? (i := 29) (by kernel_rfl)))
    a_Question_weights := He.noat_ok (a _ (List.mem_of_getElem? (i := 30) (by kernel_rfl)))
    k_Book := He.cls_ok (a _ (List.mem_of_getElem? (i := 31) (by kernel_rfl)))
    g_Book := He.glo_ok X G (a _ (List.mem_of_getElem? (i := 32) (by kernel_rfl)))
    m_Book := He.mkr_ok (a _ (List.mem_of_getElem? (i := 33) (by kernel_rfl)))
    m_Book_with_question := He.meth_ok (a _ (List.mem_of_getElem? (i := 34) (by kernel_rfl)))
    m_Book_without := He.meth_ok (a _ (List.mem_of_getElem? (i := 35) (by kernel_rfl))) }
structure TopF3 (K : PySem.W.Frag) (mg : Str → Option Value) : Prop where
  m_Book___call__ : Meth K (He.ga K "Book") "__call__" (He.ma K (He.ga K "Book") "__call__")
  m_Book___len__ : Meth K (He.ga K "Book") "__len__" (He.ma K (He.ga K "Book") "__len__")
  m_Book___iter__ : Meth K (He.ga K "Book") "__iter__" (He.ma K (He.ga K "Book") "__iter__")
  m_Book___contains__ : Meth K (He.ga K "Book") "__contains__" (He.ma K (He.ga K "Book") "__contains__")
  m_Book___getitem__ : Meth K (He.ga K "Book") "__getitem__" (He.ma K (He.ga K "Book") "__getitem__")
  m_Book___or__ : Meth K (He.ga K "Book") "__or__" (He.ma K (He.ga K "Book") "__or__")
  m_Book___le__ : Meth K (He.ga K "Book") "__le__" (He.ma K (He.ga K "Book") "__le__")
  m_Book___eq__ : Meth K (He.ga K "Book") "__eq__" (He.ma K (He.ga K "Book") "__eq__")
  m_Book___str__ : Meth K (He.ga K "Book") "__str__" (He.ma K (He.ga K "Book") "__str__")
  a_Book___bool__ : NoAttr K (He.ga K "Book") "__bool__"
  a_Book__questions : NoAttr K (He.ga K "Book") "_questions"
  a_Book_shape : NoAttr K (He.ga K "Book") "shape"
theorem TopF3.of (X : K.In h) (G : h.Ns mainGlobals mg) (a : ∀ f, f ∈ fas → He.Fa.ok K f = true) : TopF3 K mg := by
  exact {
    m_Book___call__ := He.meth_ok (a _ (List.mem_of_getElem? (i := 36) (by kernel_rfl)))
    m_Book___len__ := He.meth_ok (a _ (List.mem_of_getElem? (i := 37) (by kernel_rfl)))
    m_Book___iter__ := He.meth_ok (a _ (List.mem_of_getElem? (i := 38) (by kernel_rfl)))
    m_Book___contains__ := He.meth_ok (a _ (List.mem_of_getElem? (i := 39) (by kernel_rfl)))
    m_Book___getitem__ := He.meth_ok (a _ (List.mem_of_getElem? (i := 40) (by kernel_rfl)))
    m_Book___or__ := He.meth_ok (a _ (List.mem_of_getElem? (i := 41) (by kernel_rfl)))
    m_Book___le__ := He.meth_ok (a _ (List.mem_of_getElem? (i := 42) (by kernel_rfl)))
    m_Book___eq__ := He.meth_ok (a _ (List.mem_of_getElem? (i := 43) (by kernel_rfl)))
    m_Book___str__ := He.meth_ok (a _ (List.mem_of_getElem? (i := 44) (by kernel_rfl)))
    a_Book___bool__ := He.noat_ok (a _ (List.mem_of_getElem? (i := 45) (by kernel_rfl)))
    a_Book__questions := He.noat_ok (a _ (List.mem_of_getElem? (i := 46) (by kernel_rfl)))
    a_Book_shape := He.noat_ok (a _ (List.mem_of_getElem? (i := 47) (by kernel_rfl))) }
structure TopF4 (K : PySem.W.Frag) (mg : Str → Option Value) : Prop where
  g_RESERVED : mg "RESERVED" = some (.ref (He.ga K "RESERVED"))
  i_MOST_LETTERS : ∃ u, mg "MOST_LETTERS" = some u ∧ RelV (.int 8) u
  i_PIECE : ∃ u, mg "PIECE" = some u ∧ RelV (.int 60) u
  i_MOST_KEYS : ∃ u, mg "MOST_KEYS" = some u ∧ RelV (.int 6) u
  i_MOST_DAYS : ∃ u, mg "MOST_DAYS" = some u ∧ RelV (.int 8) u
  i_MOST_PLACES : ∃ u, mg "MOST_PLACES" = some u ∧ RelV (.int 36) u
theorem TopF4.of (X : K.In h) (G : h.Ns mainGlobals mg) (a : ∀ f, f ∈ fas → He.Fa.ok K f = true) : TopF4 K mg := by
  exact {
    g_RESERVED := He.glo_ok X G (a _ (List.mem_of_getElem? (i := 48) (by kernel_rfl)))
    i_MOST_LETTERS := by
      obtain ⟨t, e⟩ := He.int_ok X G (x := "MOST_LETTERS") (i := 8) (a _ (List.mem_of_getElem? (i := 49) (by kernel_rfl)))
      exact ⟨_, e, t, rfl⟩
    i_PIECE := by
      obtain ⟨t, e⟩ := He.int_ok X G (x := "PIECE") (i := 60) (a _ (List.mem_of_getElem? (i := 50) (by kernel_rfl)))
      exact ⟨_, e, t, rfl⟩
    i_MOST_KEYS := by
      obtain ⟨t, e⟩ := He.int_ok X G (x := "MOST_KEYS") (i := 6) (a _ (List.mem_of_getElem? (i := 51) (by kernel_rfl)))
      exact ⟨_, e, t, rfl⟩
    i_MOST_DAYS := by
      obtain ⟨t, e⟩ := He.int_ok X G (x := "MOST_DAYS") (i := 8) (a _ (List.mem_of_getElem? (i := 52) (by kernel_rfl)))
      exact ⟨_, e, t, rfl⟩
    i_MOST_PLACES := by
      obtain ⟨t, e⟩ := He.int_ok X G (x := "MOST_PLACES") (i := 36) (a _ (List.mem_of_getElem? (i := 53) (by kernel_rfl)))
      exact ⟨_, e, t, rfl⟩ }
structure TopT (K : PySem.W.Frag) (mg : Str → Option Value) : Prop where
  t_RESERVED : ∀ H : Hp, SqT K H (He.ga K "RESERVED") [V.str "days", V.str "keys", V.str "every", V.str "leads", V.str "sizes", V.str "blocks", V.str "pages", V.str "cells", V.str "buckets", V.str "stripes", V.str "block", V.str "page", V.str "cell", V.str "bucket", V.str "parity", V.str "journal", V.str "read", V.str "given", V.str "none", V.str "order"]
  y_RESERVED : ∀ H : Hp, tyV K "tuple" (.ref (He.ga K "RESERVED")) H
theorem TopT.of (X : K.In h) (G : h.Ns mainGlobals mg) (a : ∀ p, p ∈ tups → tupB K p = true) : TopT K mg := by
  exact {
    t_RESERVED := fun H => tupB_ok (p := ("RESERVED", [.str "days", .str "keys", .str "every", .str "leads", .str "sizes", .str "blocks", .str "pages", .str "cells", .str "buckets", .str "stripes", .str "block", .str "page", .str "cell", .str "bucket", .str "parity", .str "journal", .str "read", .str "given", .str "none", .str "order"])) (a _ (List.mem_of_getElem? (i := 0) (by kernel_rfl)))
    y_RESERVED := fun H => tupB_ty (p := ("RESERVED", [.str "days", .str "keys", .str "every", .str "leads", .str "sizes", .str "blocks", .str "pages", .str "cells", .str "buckets", .str "stripes", .str "block", .str "page", .str "cell", .str "bucket", .str "parity", .str "journal", .str "read", .str "given", .str "none", .str "order"])) (a _ (List.mem_of_getElem? (i := 0) (by kernel_rfl))) }
structure TopO (K : PySem.W.Frag) (mg : Str → Option Value) : Prop where
  o_Shape : Owns K own "Shape"
  o_Part : Owns K own "Part"
  o_Table : Owns K own "Table"
  o_Question : Owns K own "Question"
  o_Book : Owns K own "Book"
theorem TopO.of (X : K.In h) (G : h.Ns mainGlobals mg) (a : ∀ x, x ∈ own → ownsB K own x = true) : TopO K mg := by
  exact {
    o_Shape := ownsB_ok (a "Shape" (List.mem_of_getElem? (i := 0) (by kernel_rfl)))
    o_Part := ownsB_ok (a "Part" (List.mem_of_getElem? (i := 1) (by kernel_rfl)))
    o_Table := ownsB_ok (a "Table" (List.mem_of_getElem? (i := 2) (by kernel_rfl)))
    o_Question := ownsB_ok (a "Question" (List.mem_of_getElem? (i := 3) (by kernel_rfl)))
    o_Book := ownsB_ok (a "Book" (List.mem_of_getElem? (i := 4) (by kernel_rfl))) }
structure TopP (K : PySem.W.Frag) (mg : Str → Option Value) : Prop where
  p_Book_or : OpsC K (He.ga K "Book") "or"
theorem TopP.of (X : K.In h) (G : h.Ns mainGlobals mg) (a : ∀ p, p ∈ ops → opB K p = true) : TopP K mg := by
  exact {
    p_Book_or := opB_ok (a ("Book", "or") (List.mem_of_getElem? (i := 0) (by kernel_rfl))) }
structure Top (w : World) (K : PySem.W.Frag) (mg : Str → Option Value) : Prop extends TopN K mg, TopE K mg, TopX K mg, TopF0 K mg, TopF1 K mg, TopF2 K mg, TopF3 K mg, TopF4 K mg, TopT K mg, TopO K mg, TopP K mg
theorem top_of (X : K.In h) (G : h.Ns mainGlobals mg) (c : SaysRA chk fn tabs [] w h K) : Top w K mg := by
  have all := c.look
  obtain ⟨cls, all⟩ := ba2 all
  obtain ⟨_, all⟩ := ba2 all
  obtain ⟨noi, all⟩ := ba2 all
  obtain ⟨fre, all⟩ := ba2 all
  obtain ⟨_, all⟩ := ba2 all
  obtain ⟨fa, all⟩ := ba2 all
  obtain ⟨tu, all⟩ := ba2 all
  obtain ⟨di, all⟩ := ba2 all
  obtain ⟨ow, st⟩ := ba2 all
  have fc : ∀ f, f ∈ fas → He.Fa.ok K f = true := fun f hf => List.all_eq_true.mp fa f hf
  exact {
    toTopN := TopN.of X G (fre)
    toTopE := TopE.of X G (cls)
    toTopX := TopX.of X G (fun x hx => List.all_eq_true.mp noi x hx)
    toTopF0 := TopF0.of X G (fc)
    toTopF1 := TopF1.of X G (fc)
    toTopF2 := TopF2.of X G (fc)
    toTopF3 := TopF3.of X G (fc)
    toTopF4 := TopF4.of X G (fc)
    toTopT := TopT.of X G (fun p hp => List.all_eq_true.mp tu p hp)
    toTopO := TopO.of X G (fun x hx => List.all_eq_true.mp ow x hx)
    toTopP := TopP.of X G (fun p hp => List.all_eq_true.mp (ba2 st).2 p hp) }
theorem glo_fn (X : K.In h) (G : h.Ns mainGlobals mg) (c : SaysRA chk fn tabs [] w h K) {x : Str} (m : x ∈ fns) : mg x = some (.ref (He.ga K x)) :=
  gloB_ok X G (List.all_eq_true.mp (ba2 (ba2 (ba2 (ba2 (ba2 c.look).2).2).2).2).1 x m)
end
abbrev Fn (K : PySem.W.Frag) (x : Str) (st : Stmt) (fd : FuncData) : Prop := FunD K x x (defArgs st) (defBody st) (defScope st) [] [] (He.ga K x) fd
end L2.K20
set_option Elab.async false
set_option linter.all false
set_option maxRecDepth 100000
set_option maxHeartbeats 4000000
/-! Values of any kind: whether they are integers, texts. -/
namespace L2.RV
open PySem PySem.Spec PyProof.Rows
/-- a module's constant -/
theorem pe_globE {X : Cx} {x : Str} {v : V} {pos : Pos} (hg : Gl X x) (h : ∃ u, X.mg x = some u ∧ RelV v u) (hd : (x == ("__debug__" : Str)) = false := by decide) : PE X (.Name x pos) (tC v) := by
  obtain ⟨u, e, r⟩ := h
  exact pe_glob hg e r hd
/-- the value is of the built-in type n -/
def Knd (K : PySem.W.Frag) (H : Hp) (v : V) (n : String) : Prop := TyX K H v (.type n)
/-- the integer that v is; a truth value is none -/
def whole : V → Option Int
  | .int i => some i
  | _ => none
/-- what isinstance says of a value of some kind -/
structure Kinds (K : PySem.W.Frag) (H : Hp) (v : V) : Prop where
  ex : ∃ n, TyX K H v (.type n) ∧ kitB n "int" = some (match v with | .int _ => true | .bl _ => true | _ => false) ∧ kitB n "bool" = some (match v with | .bl _ => true | _ => false) ∧ kitB n "str" = some (match v with | .str _ => true | _ => false)
theorem kinds_non {K : PySem.W.Frag} {H : Hp} : Kinds K H .non := ⟨"NoneType", .base .non, (by decide +kernel : kitB "NoneType" "int" = some false), (by decide +kernel : kitB "NoneType" "bool" = some false), (by decide +kernel : kitB "NoneType" "str" = some false)⟩
theorem kinds_bl {K : PySem.W.Frag} {H : Hp} (b : Bool) : Kinds K H (.bl b) := ⟨"bool", .base (.bl b), (by decide +kernel : kitB "bool" "int" = some true), (by decide +kernel : kitB "bool" "bool" = some true), (by decide +kernel : kitB "bool" "str" = some false)⟩
theorem kinds_int {K : PySem.W.Frag} {H : Hp} (i : Int) : Kinds K H (.int i) := ⟨"int", .base (.int i), (by decide +kernel : kitB "int" "int" = some true), (by decide +kernel : kitB "int" "bool" = some false), (by decide +kernel : kitB "int" "str" = some false)⟩
theorem kinds_str {K : PySem.W.Frag} {H : Hp} (x : Str) : Kinds K H (.str x) := ⟨"str", .base (.str x), (by decide +kernel : kitB "str" "int" = some false), (by decide +kernel : kitB "str" "bool" = some false), (by decide +kernel : kitB "str" "str" = some true)⟩
theorem kinds_lst {K : PySem.W.Frag} {H : Hp} {a : Addr} {xs : List V} (h : H a = some (.lst xs)) : Kinds K H (.ref a) := ⟨"list", .base (.lst h), (by decide +kernel : kitB "list" "int" = some false), (by decide +kernel : kitB "list" "bool" = some false), (by decide +kernel : kitB "list" "str" = some false)⟩
theorem kinds_tup {K : PySem.W.Frag} {H : Hp} {a : Addr} {xs : List V} (h : H a = some (.tup xs)) : Kinds K H (.ref a) := ⟨"tuple", .base (.tup h), (by decide +kernel : kitB "tuple" "int" = some false), (by decide +kernel : kitB "tuple" "bool" = some false), (by decide +kernel : kitB "tuple" "str" = some false)⟩
theorem kinds_dct {K : PySem.W.Frag} {H : Hp} {a : Addr} {kvs : List (Key × V)} (h : H a = some (.dK kvs)) : Kinds K H (.ref a) := ⟨"dict", .base (.dK h), (by decide +kernel : kitB "dict" "int" = some false), (by decide +kernel : kitB "dict" "bool" = some false), (by decide +kernel : kitB "dict" "str" = some false)⟩
end L2.RV
set_option Elab.async false
set_option linter.all false
set_option maxRecDepth 100000
set_option maxHeartbeats 4000000
/-! Integers, names. -/
namespace L2.K20
open PySem PySem.Spec PyProof.Rows L2.RV
def isInt : V → Bool
  | .int _ => true
  | _ => false
/-- is_whole(value) -/
def spWhole (K : PySem.W.Frag) : Sp := fun vs H Q _ => ∃ v : V, vs = [v] ∧ Kinds K H v ∧ Q (.bl (isInt v)) H
def from_ (lo hi : Int) : V → Bool
  | .int i => decide (lo ≤ i) && decide (i ≤ hi)
  | _ => false
/-- is_whole_from(value, low, high) -/
def spFrom (K : PySem.W.Frag) : Sp := fun vs H Q _ => ∃ (v : V) (lo hi : Int), vs = [v, .int lo, .int hi] ∧ Kinds K H v ∧ Q (.bl (from_ lo hi v)) H
/-- the names that are kept -/
def resV : List V := (["days", "keys", "every", "leads", "sizes", "blocks", "pages", "cells", "buckets", "stripes", "block", "page", "cell", "bucket", "parity", "journal", "read", "given", "none", "order"] : List Str).map fun x => .str x
/-- is_name(value), of a text -/
def isName (x : Str) : Bool := decide (1 ≤ (x.length : Int)) && (decide ((x.length : Int) ≤ 8) && (Txt.isascii x && (Txt.isalpha x && (Txt.islower x && !inV (.str x) resV))))
def spName : Sp := fun vs H Q _ => ∃ x : Str, vs = [.str x] ∧ x.length ≤ sizeLine ∧ Q (.bl (isName x)) H
section
variable {P : Program} {w : World} {K : PySem.W.Frag} {mg : Str → Option Value} {base : Heap} {fd : FuncData}
theorem ok_is_whole (T : Top w K mg) (F : Fn K "is_whole" s_is_whole fd) : FnOk P w K mg base CX0 1 (He.ga K "is_whole") fd ["value"] (spWhole K) := by
  refine F.ok sc_is_whole (fun vs H Q E h => ?_) (fun cdv A outer s H vs Q E hr h => ?_)
  · obtain ⟨v, rfl, _⟩ := h
    rfl
  · obtain ⟨v, rfl, kd, k⟩ := h
    obtain ⟨n, ty, ki, kb, ks⟩ := kd.ex
    refine ⟨_, PSs.nox (pss_one (ps_ret (pe_and (pe_callB call_isi rfl T.n_isinstance (by decide +kernel) (pa_cons (pv 0) (pa_cons (pe_bltn (v := .ty "int") (u := .type "int") rfl T.n_int (by decide +kernel) rfl) pa_nil))) (pe_one (pe_not (pe_callB call_isi rfl T.n_isinstance (by decide +kernel) (pa_cons (pv 0) (pa_cons (pe_bltn (v := .ty "bool") (u := .type "bool") rfl T.n_bool (by decide +kernel) rfl) pa_nil)))))))), ?_⟩
    refine ⟨_, rfl, _, _, _, _, _, rfl, .ty "int", ty, kit_ty ki, _, rfl, ?_⟩
    cases v with
    | int i => exact ⟨_, rfl, _, _, _, _, _, rfl, .ty "bool", ty, kit_ty kb, _, rfl, k⟩
    | bl b => exact ⟨_, rfl, _, _, _, _, _, rfl, .ty "bool", ty, kit_ty kb, _, rfl, k⟩
    | _ => exact k
theorem ok_is_whole_from (T : Top w K mg) (D_is_whole : Def P w K mg base "is_whole" 1 ["value"] (spWhole K)) (F : Fn K "is_whole_from" s_is_whole_from fd) : FnOk P w K mg base CX0 2 (He.ga K "is_whole_from") fd ["value", "low", "high"] (spFrom K) := by
  refine F.ok sc_is_whole_from (fun vs H Q E h => ?_) (fun cdv A outer s H vs Q E hr h => ?_)
  · obtain ⟨v, lo, hi, rfl, _⟩ := h
    rfl
  · obtain ⟨v, lo, hi, rfl, kd, k⟩ := h
    refine ⟨_, PSs.nox (pss_one (ps_ret (pe_and (pe_callD D_is_whole (hr.mono (by decide)) rfl (pa_cons (pv 0) pa_nil)) (pe_one (pe_chain op_le op_le (pv 1) (pv 0) (pv 2) ))))), ?_⟩
    refine ⟨_, rfl, v, rfl, kd, _, rfl, ?_⟩
    cases v with
    | int i =>
      refine ⟨_, rfl, _, rfl, _, _, rfl, rfl, _, rfl, ?_⟩
      by_cases c : lo ≤ i
      · rw [decide_eq_true c]
        refine ⟨_, rfl, _, _, rfl, rfl, ?_⟩
        have e : from_ lo hi (.int i) = decide (i ≤ hi) := by
          show (decide (lo ≤ i) && decide (i ≤ hi)) = decide (i ≤ hi)
          rw [decide_eq_true c, Bool.true_and]
        rw [e] at k
        exact k
      · rw [decide_eq_false c]
        have e : from_ lo hi (.int i) = false := by
          show (decide (lo ≤ i) && decide (i ≤ hi)) = false
          rw [decide_eq_false c, Bool.false_and]
        rw [e] at k
        exact k
    | _ => exact k
theorem ok_is_name (T : Top w K mg) (F : Fn K "is_name" s_is_name fd) : FnOk P w K mg base CX0 1 (He.ga K "is_name") fd ["value"] spName := by
  refine F.ok sc_is_name (fun vs H Q E h => ?_) (fun cdv A outer s H vs Q E hr h => ?_)
  · obtain ⟨x, rfl, _⟩ := h
    rfl
  · obtain ⟨x, rfl, lx, k⟩ := h
    refine ⟨_, PSs.nox (pss_cons (ps_if (PW.pt (pw_or (pt_not (pt_val (pe_callB call_isi rfl T.n_isinstance (by decide +kernel) (pa_cons (pv 0) (pa_cons (pe_bltn (v := .ty "str") (u := .type "str") rfl T.n_str (by decide +kernel) rfl) pa_nil))))) (pw_or1 (pt_not (pt_chain op_le op_le pe_int (pe_callB call_len rfl T.n_len (by decide +kernel) (pa_cons (pv 0) pa_nil)) (pe_globE rfl T.i_MOST_LETTERS) ))))) (pss_one (ps_ret pe_bl)) pss_nil)
      (pss_cons (ps_set (i := 1) sc_is_name.nd rfl (by first | exact Or.inl rfl | exact Or.inr rfl) (pe_and (pe_bm0 PySem.F.plainAttrs_str PySem.F.slot_str_isascii PySem.F.type_str_isascii mt_isascii (pv 0)) (pe_and (pe_bm0 PySem.F.plainAttrs_str PySem.F.slot_str_isalpha PySem.F.type_str_isalpha mt_isalpha (pv 0)) (pe_one (pe_bm0 PySem.F.plainAttrs_str PySem.F.slot_str_islower PySem.F.type_str_islower mt_islower (pv 0))))))
      (pss_one (ps_ret (pe_and (pv 1) (pe_one (pe_cmpR op_notIn_seq (pv 0) (pe_glob (v := .ref (He.ga K "RESERVED")) rfl T.g_RESERVED rfl) rfl))))))), ?_⟩
    obtain ⟨n, ty, ki, kb, ks⟩ := (kinds_str (K := K) (H := H) x).ex
    refine ⟨_, rfl, _, _, _, _, _, rfl, .ty "str", ty, kit_ty ks, _, rfl, ?_⟩
    refine (if_neg (by decide : ¬ ((!true) = true))).mpr ?_
    refine ⟨_, rfl, _, _, rfl, ⟨lx, rfl⟩, ?_⟩
    refine ⟨_, _, rfl, rfl, _, rfl, ?_⟩
    have e : isName x = (decide (1 ≤ (x.length : Int)) && (decide ((x.length : Int) ≤ 8) && (Txt.isascii x && (Txt.isalpha x && (Txt.islower x && !inV (.str x) resV))))) := by rfl
    rw [e] at k
    clear e
    cases c1 : decide (1 ≤ (x.length : Int)) with
    | false =>
      rw [c1] at k
      exact ⟨_, rfl, k⟩
    | true =>
      refine ⟨_, _, rfl, rfl, _, rfl, ?_⟩
      rw [c1, Bool.true_and] at k
      cases c2 : decide ((x.length : Int) ≤ 8) with
      | false =>
        rw [c2] at k
        exact k
      | true =>
        rw [c2, Bool.true_and] at k
        refine (if_neg (by decide : ¬ ((!true) = true))).mpr ?_
        refine ⟨_, rfl, rfl, _, rfl, rfl, trivial, _, rfl, ?_⟩
        cases c3 : Txt.isascii x with
        | false =>
          rw [c3] at k
          exact ⟨_, rfl, _, rfl, k⟩
        | true =>
          rw [c3, Bool.true_and] at k
          refine ⟨_, rfl, rfl, _, rfl, rfl, trivial, _, rfl, ?_⟩
          cases c4 : Txt.isalpha x with
          | false =>
            rw [c4] at k
            exact ⟨_, rfl, _, rfl, k⟩
          | true =>
            rw [c4, Bool.true_and] at k
            refine ⟨_, rfl, rfl, _, rfl, rfl, trivial, ?_⟩
            refine ⟨_, rfl, _, rfl, ?_⟩
            cases c5 : Txt.islower x with
            | false =>
              rw [c5] at k
              exact k
            | true =>
              rw [c5, Bool.true_and] at k
              exact ⟨_, rfl, _, resV, rfl, .inr (T.t_RESERVED _), rfl, by decide, k⟩
end
end L2.K20
set_option Elab.async false
set_option linter.all false
set_option maxRecDepth 100000
set_option maxHeartbeats 4000000
/-! The pen's defs keep their promises. -/
namespace L2.K20
open PySem PySem.Spec PyProof.Rows L2.RV
section
variable {P : Program} {w : World} {K : PySem.W.Frag} {mg : Str → Option Value} {base : Heap} {fd : FuncData}
theorem ok_law_pen (T : Top w K mg) (F : Fn K "_law_pen" s_law_pen fd) : FnOk P w K mg base CX0 1 (He.ga K "_law_pen") fd ["_law_script"] (spPen K) := by
  refine F.ok sc_law_pen (fun vs H Q E h => ?_) (fun cdv A outer s H vs Q E hr h => ?_)
  · obtain ⟨a, ns, rfl, _⟩ := h
    rfl
  · obtain ⟨a, ns, rfl, hS, few, k⟩ := h
    refine ⟨_, PSs.nox (pss_one (ps_ret (pe_lstN (pa_cons (pe_callTy call_list_of rfl T.n_list (by decide +kernel) (pa_cons (pe_slice sl_list (pv 0) po_none (po_some pe_int)) pa_nil)) (pa_cons pe_int (pa_cons pe_int pa_nil)))))), ?_⟩
    obtain ⟨ms, em, lm⟩ := cut_ints ns none (some 63)
    refine ⟨_, rfl, 63, rfl, a, _, rfl, hS, fun q1 h1 => ?_⟩
    refine ⟨q1, _, rfl, .inl (SqL.of upd_same), fun q2 h2 => ?_⟩
    refine ⟨by show 3 ≤ sizeLine; decide, fun p hp hs => ?_⟩
    have n21 : q2 ≠ p := fun z => by
      rw [← z, upd_same] at hp
      cases hp
    have n2 : H q2 = none := by
      have z := h2
      have ne : q2 ≠ q1 := fun y => by
        rw [y, upd_same] at z
        cases z
      rw [upd_ne ne] at z
      exact z
    have np : H p = none := (Same.trans (same_new h1) (same_new h2)).free hp
    exact k _ p q2 ms ((Same.trans (same_new h1) (same_new h2)).trans (same_new hp)) np ⟨upd_same, by rw [upd_ne n21, upd_same, em], n21, by omega, Int.le_refl 0, Int.le_refl 0⟩
theorem ok_law_draw (T : Top w K mg) (F : Fn K "_law_draw" s_law_draw fd) : FnOk P w K mg base CX0 1 (He.ga K "_law_draw") fd ["_law_pen_here", "_law_many"] spDraw := by
  refine F.ok sc_law_draw (fun vs H Q E h => ?_) (fun cdv A outer s H vs Q E hr h => ?_)
  · obtain ⟨p, l, ns, a, r, m, rfl, _⟩ := h
    rfl
  · obtain ⟨p, l, ns, a, r, m, rfl, pa, ha, m0, m1, k⟩ := h
    have hu := hr.units
    have a0 := pa.from0
    have r0 := pa.rest0
    refine ⟨_, PSs.nox (pss_cons (ps_if (pt_cmpR op_gt (pe_ix ix_seq (pv 0) pe_int (fun _ _ => rfl)) pe_int (nomark _)) (pss_cons (ps_set (i := 5) sc_law_draw.nd rfl (by first | exact Or.inl rfl | exact Or.inr rfl) (pe_op op_mod (pe_callTy call_int1 rfl T.n_int (by decide +kernel) (pa_cons (pe_ix ix_seq (pv 0) pe_int (fun _ _ => rfl)) pa_nil)) (pv 1)))
      (pss_cons (ps_asg (pe_op op_fdiv (pe_callTy call_int1 rfl T.n_int (by decide +kernel) (pa_cons (pe_ix ix_seq (pv 0) pe_int (fun _ _ => rfl)) pa_nil)) (pv 1)) (pg_sub (pv 0) pe_int set_list))
      (pss_one (ps_ret (pv 5))))) pss_nil)
      (pss_cons (ps_set (i := 2) sc_law_draw.nd rfl (by first | exact Or.inl rfl | exact Or.inr rfl) (pe_ix ix_seq (pv 0) pe_int (fun _ _ => rfl)))
      (pss_cons (ps_asg (pe_op op_plus (pv 2) pe_int) (pg_sub (pv 0) pe_int set_list))
      (pss_cons (ps_set (i := 3) sc_law_draw.nd rfl (by first | exact Or.inl rfl | exact Or.inr rfl) (pe_op op_plus (pe_op op_times pe_int (pv 2)) pe_int))
      (pss_cons (ps_if (pt_cmpR (op_diff hu) (pe_ix ix_seq (pv 0) pe_int (fun _ _ => rfl)) (pe_lstN pa_nil) (nomark _)) (pss_one (ps_set (i := 3) sc_law_draw.nd rfl (by first | exact Or.inl rfl | exact Or.inr rfl) (pe_ix ix_seq (pe_ix ix_seq (pv 0) pe_int (fun _ _ => rfl)) (pe_op op_mod (pe_callTy call_int1 rfl T.n_int (by decide +kernel) (pa_cons (pv 2) pa_nil)) (pe_callB call_len rfl T.n_len (by decide +kernel) (pa_cons (pe_ix ix_seq (pv 0) pe_int (fun _ _ => rfl)) pa_nil))) (fun _ _ => rfl)))) pss_nil)
      (pss_cons (ps_if (PW.pt (pw_and (pt_cmpR op_lt (pv 2) (pe_callB call_len rfl T.n_len (by decide +kernel) (pa_cons (pe_ix ix_seq (pv 0) pe_int (fun _ _ => rfl)) pa_nil)) (nomark _)) (pw_and1 (pt_cmpR op_ge (pe_callB call_abs rfl T.n_abs (by decide +kernel) (pa_cons (pv 3) pa_nil)) (pe_op op_pow pe_int pe_int) (nomark _))))) (pss_cons (ps_set (i := 6) sc_law_draw.nd rfl (by first | exact Or.inl rfl | exact Or.inr rfl) (pe_op op_plus (pe_op op_times pe_int (pe_op op_sub (pe_callB call_abs rfl T.n_abs (by decide +kernel) (pa_cons (pv 3) pa_nil)) (pe_op op_pow pe_int pe_int))) (pe_callTy call_int1 rfl T.n_int (by decide +kernel) (pa_cons (pe_cmpR op_lt (pv 3) pe_int (nomark _)) pa_nil))))
      (pss_cons (ps_asg (pe_op op_fdiv (pe_callTy call_int1 rfl T.n_int (by decide +kernel) (pa_cons (pv 6) pa_nil)) (pv 1)) (pg_sub (pv 0) pe_int set_list))
      (pss_one (ps_ret (pe_op op_mod (pe_callTy call_int1 rfl T.n_int (by decide +kernel) (pa_cons (pv 6) pa_nil)) (pv 1)))))) pss_nil)
      (pss_cons (ps_set (i := 4) sc_law_draw.nd rfl (by first | exact Or.inl rfl | exact Or.inr rfl) (pe_op op_mod (pe_callTy call_int1 rfl T.n_int (by decide +kernel) (pa_cons (pe_op op_pow (pe_op op_plus (pe_op op_plus (pe_op op_mod (pe_callTy call_int1 rfl T.n_int (by decide +kernel) (pa_cons (pv 3) pa_nil)) pe_int) (pe_op op_times pe_int (pv 2))) pe_int) pe_int) pa_nil)) pe_int))
      (pss_cons (ps_set (i := 4) sc_law_draw.nd rfl (by first | exact Or.inl rfl | exact Or.inr rfl) (pe_op op_mod (pe_callTy call_int1 rfl T.n_int (by decide +kernel) (pa_cons (pe_op op_pow (pe_op op_plus (pe_op op_plus (pe_op op_times (pv 4) (pe_op op_plus (pe_op op_times pe_int (pv 2)) pe_int)) (pe_op op_times (pe_op op_times pe_int (pv 2)) (pv 2))) pe_int) pe_int) pa_nil)) pe_int))
      (pss_one (ps_ret (pe_op op_mod (pe_callTy call_int1 rfl T.n_int (by decide +kernel) (pa_cons (pe_op op_fdiv (pv 4) pe_int) pa_nil)) (pv 1)))))))))))), ?_⟩
    refine ⟨_, rfl, rd_ix pa.pen rfl ⟨_, _, rfl, rfl, _, rfl, ?_⟩⟩
    refine ite2 (fun c => ?_) (fun c => ?_)
    · -- a digit of what is left
      refine ⟨_, rfl, rd_ix pa.pen rfl (.inl ⟨_, rfl, _, rfl, _, _, rfl, rfl, m0, ?_⟩)⟩
      refine ⟨_, rfl, rd_ix pa.pen rfl (.inl ⟨_, rfl, _, rfl, _, _, rfl, rfl, ⟨m0, m1⟩, ?_⟩)⟩
      refine ⟨_, rfl, rd_set [.ref l, .int a, .int (r / m)] pa.pen rfl rfl ?_⟩
      refine ⟨_, rfl, ?_⟩
      exact k _ a (r / m) (r % m) Keep.upd ⟨upd_same, by rw [upd_ne pa.ne]; exact pa.nums, pa.ne, pa.few, pa.from0, Int.ediv_nonneg r0 (by omega)⟩ (by omega) (Int.emod_nonneg _ (by omega)) (Int.emod_lt_of_pos _ m0)
    · refine ⟨_, rfl, rd_ix pa.pen rfl ?_⟩
      refine ⟨_, rfl, .inl ⟨_, _, rfl, rfl, ?_⟩⟩
      refine ⟨_, rfl, rd_set [.ref l, .int (a + 1), .int r] pa.pen rfl rfl ?_⟩
      have p1 : PenAt (upd H p (.lst [.ref l, .int (a + 1), .int r])) p l ns (a + 1) r := ⟨upd_same, by rw [upd_ne pa.ne]; exact pa.nums, pa.ne, pa.few, by omega, r0⟩
      have k1 : Keep p H (upd H p (.lst [.ref l, .int (a + 1), .int r])) := Keep.upd
      generalize upd H p (.lst [.ref l, .int (a + 1), .int r]) = H1 at p1 k1 ⊢
      refine ⟨_, rfl, .inl ⟨_, _, rfl, rfl, cmulL (by decide) (by decide), .inl ⟨_, _, rfl, rfl, ?_⟩⟩⟩
      refine ⟨_, rfl, rd_ix p1.pen rfl ⟨Nat.zero_le _, fun q hq _ => .inr ⟨_, _, .lst (SqL.of (same_new hq _ _ p1.nums)) (dpA_int ns), .lst (SqL.of upd_same) .nil, shaped_int ns, by decide, _, rfl, ?_⟩⟩⟩
      have p2 := p1.same (same_new (o := .lst []) hq)
      have k2 : Keep p H (upd H1 q (.lst [])) := k1.trans (.of (same_new hq))
      generalize upd H1 q (.lst []) = H2 at p2 k2 ⊢
      refine ite2 (fun c => ?_) (fun c => ?_)
      · have pos : 0 < ns.length := by
          rw [no_ints] at c
          cases ns with
          | nil => simp at c
          | cons n ns => exact Nat.succ_pos _
        obtain ⟨cell, hcell⟩ := atI_mod (a := a) pos a0
        have pos' : (0 : Int) < (((ns.map V.int).length : Nat) : Int) := by rw [List.length_map]; omega
        refine ⟨_, rfl, rd_ix p2.pen rfl ⟨_, rfl, .inl ⟨_, rfl, _, rfl, rd_ix p2.pen rfl ⟨_, _, rfl, .inl ⟨_, SqL.of p2.nums, rfl⟩, _, _, rfl, rfl, pos', rd_ix p2.nums hcell ?_⟩⟩⟩⟩
        refine ⟨_, rfl, _, rfl, rd_ix p2.pen rfl ⟨_, _, rfl, .inl ⟨_, SqL.of p2.nums, rfl⟩, _, _, rfl, rfl, _, rfl, ?_⟩⟩
        refine ite2 (fun c1 => ?_) (fun c1 => ?_)
        · refine ⟨_, rfl, _, rfl, _, _, rfl, rfl, c18, _, _, rfl, rfl, _, rfl, ?_⟩
          refine ite2 (fun c2 => ?_) (fun c2 => ?_)
          · refine ⟨_, rfl, _, rfl, _, _, rfl, rfl, c18, _, _, rfl, rfl, .inl ⟨_, _, rfl, rfl, cmulL (by decide) (by decide), _, rfl, _, _, rfl, rfl, .inr ⟨_, rfl, .inl ⟨_, _, rfl, rfl, ?_⟩⟩⟩⟩
            refine ⟨_, rfl, .inl ⟨_, rfl, _, rfl, _, _, rfl, rfl, ⟨m0, m1⟩, ?_⟩⟩
            refine ⟨_, rfl, rd_set [.ref l, .int (a + 1), .int _] p2.pen rfl rfl ?_⟩
            refine ⟨_, rfl, .inl ⟨_, rfl, _, rfl, _, _, rfl, rfl, m0, ?_⟩⟩
            refine k _ (a + 1) _ _ (k2.trans Keep.upd) ⟨upd_same, by rw [upd_ne p2.ne]; exact p2.nums, p2.ne, p2.few, by omega, Int.ediv_nonneg ?_ (by omega)⟩ (by omega) (Int.emod_nonneg _ (by omega)) (Int.emod_lt_of_pos _ m0)
            have c2' := of_decide_eq_true c2
            rw [e18] at c2' ⊢
            split <;> omega
          · refine ⟨_, rfl, .inl ⟨_, rfl, _, _, rfl, rfl, (by show (0 : Int) < _; decide), _, rfl, .inl ⟨_, _, rfl, rfl, cmulL (by decide) (by decide), .inl ⟨_, _, rfl, rfl, .inl ⟨_, _, rfl, rfl, _, _, rfl, rfl, cpow5 (by omega) (by omega), .inl ⟨_, rfl, _, _, rfl, rfl, (by show (0 : Int) < _; decide), ?_⟩⟩⟩⟩⟩⟩
            refine ⟨_, rfl, _, rfl, .inl ⟨_, _, rfl, rfl, cmulL (by decide) (by decide), .inl ⟨_, _, rfl, rfl, .inl ⟨_, _, rfl, rfl, cmulL (Int.emod_nonneg _ (by decide)) (by omega), _, rfl, .inl ⟨_, _, rfl, rfl, cmulL (by decide) (by decide), _, rfl, .inl ⟨_, _, rfl, rfl, cmulL (by omega) (by omega), .inl ⟨_, _, rfl, rfl, .inl ⟨_, _, rfl, rfl, _, _, rfl, rfl, cpow3 (by omega) (by omega) (by omega) (by omega) (by omega) (by omega) a0 ha (by decide) (by decide), .inl ⟨_, rfl, _, _, rfl, rfl, (by show (0 : Int) < _; decide), ?_⟩⟩⟩⟩⟩⟩⟩⟩⟩
            refine ⟨_, rfl, _, _, rfl, rfl, ⟨by decide, by decide⟩, .inl ⟨_, rfl, _, rfl, _, _, rfl, rfl, m0, ?_⟩⟩
            exact k _ (a + 1) r _ k2 p2 (Int.le_refl _) (Int.emod_nonneg _ (by omega)) (Int.emod_lt_of_pos _ m0)
        · refine iteF ?_
          refine ⟨_, rfl, .inl ⟨_, rfl, _, _, rfl, rfl, (by show (0 : Int) < _; decide), _, rfl, .inl ⟨_, _, rfl, rfl, cmulL (by decide) (by decide), .inl ⟨_, _, rfl, rfl, .inl ⟨_, _, rfl, rfl, _, _, rfl, rfl, cpow5 (by omega) (by omega), .inl ⟨_, rfl, _, _, rfl, rfl, (by show (0 : Int) < _; decide), ?_⟩⟩⟩⟩⟩⟩
          refine ⟨_, rfl, _, rfl, .inl ⟨_, _, rfl, rfl, cmulL (by decide) (by decide), .inl ⟨_, _, rfl, rfl, .inl ⟨_, _, rfl, rfl, cmulL (Int.emod_nonneg _ (by decide)) (by omega), _, rfl, .inl ⟨_, _, rfl, rfl, cmulL (by decide) (by decide), _, rfl, .inl ⟨_, _, rfl, rfl, cmulL (by omega) (by omega), .inl ⟨_, _, rfl, rfl, .inl ⟨_, _, rfl, rfl, _, _, rfl, rfl, cpow3 (by omega) (by omega) (by omega) (by omega) (by omega) (by omega) a0 ha (by decide) (by decide), .inl ⟨_, rfl, _, _, rfl, rfl, (by show (0 : Int) < _; decide), ?_⟩⟩⟩⟩⟩⟩⟩⟩⟩
          refine ⟨_, rfl, _, _, rfl, rfl, ⟨by decide, by decide⟩, .inl ⟨_, rfl, _, rfl, _, _, rfl, rfl, m0, ?_⟩⟩
          exact k _ (a + 1) r _ k2 p2 (Int.le_refl _) (Int.emod_nonneg _ (by omega)) (Int.emod_lt_of_pos _ m0)
      · refine ⟨_, rfl, _, rfl, rd_ix p2.pen rfl ⟨_, _, rfl, .inl ⟨_, SqL.of p2.nums, rfl⟩, _, _, rfl, rfl, _, rfl, ?_⟩⟩
        refine ite2 (fun c1 => ?_) (fun c1 => ?_)
        · refine ⟨_, rfl, _, rfl, _, _, rfl, rfl, c18, _, _, rfl, rfl, _, rfl, ?_⟩
          refine ite2 (fun c2 => ?_) (fun c2 => ?_)
          · refine ⟨_, rfl, _, rfl, _, _, rfl, rfl, c18, _, _, rfl, rfl, .inl ⟨_, _, rfl, rfl, cmulL (by decide) (by decide), _, rfl, _, _, rfl, rfl, .inr ⟨_, rfl, .inl ⟨_, _, rfl, rfl, ?_⟩⟩⟩⟩
            refine ⟨_, rfl, .inl ⟨_, rfl, _, rfl, _, _, rfl, rfl, ⟨m0, m1⟩, ?_⟩⟩
            refine ⟨_, rfl, rd_set [.ref l, .int (a + 1), .int _] p2.pen rfl rfl ?_⟩
            refine ⟨_, rfl, .inl ⟨_, rfl, _, rfl, _, _, rfl, rfl, m0, ?_⟩⟩
            refine k _ (a + 1) _ _ (k2.trans Keep.upd) ⟨upd_same, by rw [upd_ne p2.ne]; exact p2.nums, p2.ne, p2.few, by omega, Int.ediv_nonneg ?_ (by omega)⟩ (by omega) (Int.emod_nonneg _ (by omega)) (Int.emod_lt_of_pos _ m0)
            have c2' := of_decide_eq_true c2
            rw [e18] at c2' ⊢
            split <;> omega
          · refine ⟨_, rfl, .inl ⟨_, rfl, _, _, rfl, rfl, (by show (0 : Int) < _; decide), _, rfl, .inl ⟨_, _, rfl, rfl, cmulL (by decide) (by decide), .inl ⟨_, _, rfl, rfl, .inl ⟨_, _, rfl, rfl, _, _, rfl, rfl, cpow5 (by omega) (by omega), .inl ⟨_, rfl, _, _, rfl, rfl, (by show (0 : Int) < _; decide), ?_⟩⟩⟩⟩⟩⟩
            refine ⟨_, rfl, _, rfl, .inl ⟨_, _, rfl, rfl, cmulL (by decide) (by decide), .inl ⟨_, _, rfl, rfl, .inl ⟨_, _, rfl, rfl, cmulL (Int.emod_nonneg _ (by decide)) (by omega), _, rfl, .inl ⟨_, _, rfl, rfl, cmulL (by decide) (by decide), _, rfl, .inl ⟨_, _, rfl, rfl, cmulL (by omega) (by omega), .inl ⟨_, _, rfl, rfl, .inl ⟨_, _, rfl, rfl, _, _, rfl, rfl, cpow3 (by omega) (by omega) (by omega) (by omega) (by omega) (by omega) a0 ha (by decide) (by decide), .inl ⟨_, rfl, _, _, rfl, rfl, (by show (0 : Int) < _; decide), ?_⟩⟩⟩⟩⟩⟩⟩⟩⟩
            refine ⟨_, rfl, _, _, rfl, rfl, ⟨by decide, by decide⟩, .inl ⟨_, rfl, _, rfl, _, _, rfl, rfl, m0, ?_⟩⟩
            exact k _ (a + 1) r _ k2 p2 (Int.le_refl _) (Int.emod_nonneg _ (by omega)) (Int.emod_lt_of_pos _ m0)
        · refine iteF ?_
          refine ⟨_, rfl, .inl ⟨_, rfl, _, _, rfl, rfl, (by show (0 : Int) < _; decide), _, rfl, .inl ⟨_, _, rfl, rfl, cmulL (by decide) (by decide), .inl ⟨_, _, rfl, rfl, .inl ⟨_, _, rfl, rfl, _, _, rfl, rfl, cpow5 (by omega) (by omega), .inl ⟨_, rfl, _, _, rfl, rfl, (by show (0 : Int) < _; decide), ?_⟩⟩⟩⟩⟩⟩
          refine ⟨_, rfl, _, rfl, .inl ⟨_, _, rfl, rfl, cmulL (by decide) (by decide), .inl ⟨_, _, rfl, rfl, .inl ⟨_, _, rfl, rfl, cmulL (Int.emod_nonneg _ (by decide)) (by omega), _, rfl, .inl ⟨_, _, rfl, rfl, cmulL (by decide) (by decide), _, rfl, .inl ⟨_, _, rfl, rfl, cmulL (by omega) (by omega), .inl ⟨_, _, rfl, rfl, .inl ⟨_, _, rfl, rfl, _, _, rfl, rfl, cpow3 (by omega) (by omega) (by omega) (by omega) (by omega) (by omega) a0 ha (by decide) (by decide), .inl ⟨_, rfl, _, _, rfl, rfl, (by show (0 : Int) < _; decide), ?_⟩⟩⟩⟩⟩⟩⟩⟩⟩
          refine ⟨_, rfl, _, _, rfl, rfl, ⟨by decide, by decide⟩, .inl ⟨_, rfl, _, rfl, _, _, rfl, rfl, m0, ?_⟩⟩
          exact k _ (a + 1) r _ k2 p2 (Int.le_refl _) (Int.emod_nonneg _ (by omega)) (Int.emod_lt_of_pos _ m0)
theorem ok_law_pick (T : Top w K mg) (D_law_draw : Def P w K mg base "_law_draw" 1 ["_law_pen_here", "_law_many"] spDraw) (F : Fn K "_law_pick" s_law_pick fd) : FnOk P w K mg base CX0 2 (He.ga K "_law_pick") fd ["_law_pen_here", "_law_some_here"] spPick := by
  refine F.ok sc_law_pick (fun vs H Q E h => ?_) (fun cdv A outer s H vs Q E hr h => ?_)
  · obtain ⟨p, l, q, ns, a, r, xs, rfl, _⟩ := h
    rfl
  · obtain ⟨p, l, q, ns, a, r, xs, rfl, pa, ha, hq, nq, pos, few, k⟩ := h
    refine ⟨_, PSs.nox (pss_one (ps_ret (pe_ix ix_seq (pv 1) (pe_callD D_law_draw (hr.mono (by decide)) rfl (pa_cons (pv 0) (pa_cons (pe_callB call_len rfl T.n_len (by decide +kernel) (pa_cons (pv 1) pa_nil)) pa_nil))) (fun _ _ => rfl)))), ?_⟩
    refine ⟨_, rfl, _, rfl, _, rfl, _, _, rfl, .inl ⟨_, SqL.of hq, rfl⟩, ?_⟩
    refine ⟨p, l, ns, a, r, _, rfl, pa, ha, by omega, by omega, fun H' a' r' d kp pa' la d0 d1 => ?_⟩
    obtain ⟨j, rfl⟩ : ∃ j : Nat, d = (j : Int) := ⟨_, (Int.toNat_of_nonneg d0).symm⟩
    have lt : j < xs.length := by omega
    refine rd_ix (kp _ _ nq hq) (atI_nat (List.getElem?_eq_getElem lt)) ?_
    exact k H' a' r' _ kp pa' la (List.getElem_mem lt)
end
end L2.K20
set_option Elab.async false
set_option linter.all false
set_option maxRecDepth 100000
set_option maxHeartbeats 4000000
/-! Keywords alone: C(k = v, ..), o(k = v, ..); C(e, .., *y). -/
namespace L2.RV
open PySem PySem.Spec PyProof.Rows StX
/-- C(k = v, ..): m keywords, nothing else -/
def tMakeK (C : Addr) (m : Nat) (sp : Sp) (gV : List V → List V → List V) (E : XK) (tk : TA) : TE := fun σ H Q => tk σ H fun zs H1 => zs.length = m ∧
  ∀ x dx, H1 x = none → H1 dx = none → dx ≠ x → sp (gV [.ref x] zs) (upd (upd H1 dx (.own x)) x (.ins C dx [])) (fun v H2 => v = .non ∧ Q (.ref x) H2) E
/-- o(k = v, ..): o an instance of C -/
def tCallK (X : Cx) (C : Addr) (m : Nat) (sp : Sp) (gV : List V → List V → List V) (E : XK) (tf : TE) (tk : TA) : TE := fun σ H Q => tf σ H fun y H1 => ∃ a, y = V.ref a ∧ tk σ H1 fun zs H2 => zs.length = m ∧ InsC X H2 a C ∧ sp (gV [.ref a] zs) H2 Q E
section
variable {X : Cx} {CX : CXT} {k : Nat} {f g C : Addr} {fd : FuncData} {ps ks : List Str} {sp : Sp} {E : XK} {x : Str} {p pos : Pos} {fe : Expr} {kws : List Keyword} {tf : TE} {tk : TA} {gv : List Value → List Value → List Value} {gV : List V → List V → List V}
theorem pe_makeK (M : Mk X.K C f) (F : FnOk X.prog X.w X.K X.mg X.base CX k f fd ps sp) (hr : Room (k + 1) X.A) (hg : Gl X x) (hm : X.mg x = some (.ref C)) (hb : KBn X.K fd ps 1 ks gv gV) (hx : Passes CX X E)
    (hkw : PK X kws tk) (hall : (backToKw pos (keywordEach kws X.env)).all (·.1.isSome) = true := by rfl) (hks : (backToKw pos (keywordEach kws X.env)).filterMap (·.1) = ks := by rfl)
    (hdb : (x == ("__debug__" : Str)) = false := by decide)
    (hpl : ((backTo pos (starEach [] X.env)).any (·.1) || (backToKw pos (keywordEach kws X.env)).any (·.1.isNone)) = false := by rfl) :
    PE X (.Call (.Name x p) [] kws pos) (tMakeK C ks.length sp gV E tk) := by
  refine ⟨fun pins s σ H Q I h => ?_⟩
  refine wpAny_Call_Name_kw (ld_glob I hg hm ?_ hdb)
  refine PySem.W.callWith_KW0 (h₀ := X.base) I.ok.mod.kin M.kp hall ?_ hpl
  refine thn (hkw.run pos pins s σ H _ I h) fun ws s2 ⟨zs, H2, I2, rz, l2, q2⟩ => ⟨I2.kIn, ?_⟩
  rw [hks]
  exact run_makeN (n := 0) M F hr hb hx I2 .nil rz rfl l2 q2
theorem run_callK {pins : List (Addr × Obj)} {σ : L2.St} {H : Hp} {s : Shared} {Q : VK} {a : Addr} {ws : List Value} {zs : List V} (c : CallO X.K C g) (F : FnOk X.prog X.w X.K X.mg X.base CX k g fd ps sp) (hr : Room k X.A) (hb : KBn X.K fd ps 1 ks gv gV) (hx : Passes CX X E)
    (I : Inv X pins σ H s) (hi : InsC X H a C) (rz : Vals zs ws) (l : zs.length = ks.length) (h : sp (gV [.ref a] zs) H Q E) : wpAny (model X.prog X.w) X.A (call (.ref a) [] (ks.zip ws)) (EP X pins σ Q) X.xe s := by
  obtain ⟨ox, od, J, hd⟩ := insC_at I hi
  have r1 : Vals [V.ref a] [Value.ref a] := .cons rfl .nil
  refine wpAny_call (PySem.W.kco_code I.kIn J hd c.at_ c.fn c.fi (codeAny_mono (F.run X.A X.stack s H ⟨[Value.ref a], ks.zip ws⟩ (gv [Value.ref a] ws) _ Q E hr I.env0 (hb.to _ [Value.ref a] ws I.kIn rfl (rz.length.symm.trans l)) (hb.rel r1 rz) h) fun r s' hq => ?_))
  cases r with
  | error e => exact hx pins σ H s e s' I hq
  | ok fl =>
    cases fl with
    | ret u => exact I.after hq
    | next => exact False.elim hq
    | brk => exact False.elim hq
    | cont => exact False.elim hq
/-- the call's node where the callee is an instance, with keywords -/
theorem callK_of {M : Model} {A : Around} {E : Value → Shared → Prop} {s : Shared} {a : Addr} {pos : Pos} {Q : Value → Shared → Prop} {args : List (Bool × Sem Value)} {kws : List (Option Str × Sem Value)} (hplain : (args.any (·.1) || kws.any (·.1.isNone)) = false)
    (h : wpAny M A (evalArgs (.ref a) true args kws) (fun z s₁ => (∃ C ox od, PySem.W.InstAt s₁.heap a ox C od ∧ ox.data = .plain) ∧ wpAny M A (call (.ref a) ([] ++ z.pos) z.kw) Q E s₁) E s) : wpAny M A (callWith pos (.ref a) [] args kws) Q E s := by
  unfold callWith
  refine wpAny_bind (wpAny_holding (wpAny_mono h (fun z s₁ h₁ => wpAny_bind (wpAny_standAt ?_)) fun _ _ y => y))
  obtain ⟨⟨C, ox, od, J, hd⟩, h₁⟩ := h₁
  have L := PySem.W.kco_keeper (M := M) J hd
  simp only [hplain]
  refine wpAny_bind (L.here ?_)
  have tail : ∀ {t : Sem Value}, wpAny M A t Q E s₁ → wpAny M A (t >>= fun r => holding [r] point >>= fun _ => pure r) Q E s₁ :=
    fun ht => wpAny_bind (wpAny_mono ht (fun r s₂ hr => wpAny_bind (wpAny_holding (wpAny_point (wpAny_pure hr)))) fun _ _ y => y)
  exact tail (wpAny_operateT h₁)
theorem pe_callK (hf : PE X fe tf) (c : CallO X.K C g) (F : FnOk X.prog X.w X.K X.mg X.base CX k g fd ps sp) (hr : Room k X.A) (hb : KBn X.K fd ps 1 ks gv gV) (hx : Passes CX X E) (hkw : PK X kws tk)
    (hall : (backToKw pos (keywordEach kws X.env)).all (·.1.isSome) = true := by rfl) (hks : (backToKw pos (keywordEach kws X.env)).filterMap (·.1) = ks := by rfl)
    (hpl : ((backTo pos (starEach [] X.env)).any (·.1) || (backToKw pos (keywordEach kws X.env)).any (·.1.isNone)) = false := by rfl)
    (ht : eval (.Call fe [] kws pos) X.env = (do callWith pos (← eval fe X.env) [] (backTo pos (starEach [] X.env)) (backToKw pos (keywordEach kws X.env))) := by rfl) :
    PE X (.Call fe [] kws pos) (tCallK X C ks.length sp gV E tf tk) := by
  refine ⟨fun pins s σ H Q I h => ?_⟩
  rw [ht]
  refine wpAny_bind (thn (hf.run pins s σ H _ I h) fun u s1 ⟨y, H1, I1, ry, a, ey, q⟩ => ?_)
  subst ey
  obtain rfl : u = Value.ref a := ry
  refine callK_of hpl (evalArgs_kw2_nil hall (thn (hkw.run pos pins s1 σ H1 _ I1 q) fun ws s2 ⟨zs, H2, I2, rz, l, hi, q2⟩ => ?_))
  obtain ⟨ox, od, J, hd⟩ := insC_at I2 hi
  refine ⟨⟨C, ox, od, J, hd⟩, ?_⟩
  rw [hks]
  exact run_callK c F hr hb hx I2 hi rz l q2
end
section
variable {X : Cx} {CX : CXT} {k : Nat} {f C : Addr} {sp : Sp} {E : XK} {x : Str} {p pos : Pos} {e : Expr} {es : List Expr} {t : TA}
/-- C(e, .., *y): C an own class, its __init__ promised by positions -/
theorem pe_makeS2 (M : Mk X.K C f) (F : FnR X.prog X.w X.K X.mg X.base CX k f sp) (hr : Room (k + 1) X.A) (hg : Gl X x) (hm : X.mg x = some (.ref C)) (hx : Passes CX X E) (ha : PA X (e :: es) t) (hdb : (x == ("__debug__" : Str)) = false := by decide)
    (he : starEach (e :: es) X.env = (false, eval e X.env) :: starEach es X.env := by rfl) (hst : (backTo pos (starEach es X.env)).any (·.1) = true := by rfl) : PE X (.Call (.Name x p) (e :: es) [] pos) (tMakeR C sp E t) := by
  refine ⟨fun pins s σ H Q I h => ?_⟩
  refine wpAny_Call_Name_kw (ld_glob I hg hm ?_ hdb)
  refine PySem.W.callWith_S2 (h₀ := X.base) I.ok.mod.kin M.kp (thn (ha.run pos pins s σ H _ I h) fun us s1 ⟨vs, H1, I1, r, q⟩ => ⟨I1.kIn, ?_⟩) he hst
  exact run_makeR M F hr hx I1 r q
end
end L2.RV
set_option Elab.async false
set_option linter.all false
set_option maxRecDepth 100000
set_option maxHeartbeats 4000000
/-! Own exceptions raised: their fields stand in a new dict. -/
namespace L2.RV
open PySem PySem.Spec PyProof.Rows
/-- the promise of an __init__ that stores its parameters ff; the dict is new -/
def spErrN (K : PySem.W.Frag) (ff : List Str) : Sp := fun vs H Q _ => ∃ (a C : Addr) (ws : List V), vs = .ref a :: ws ∧ ws.length = ff.length ∧ OexC K C ∧ (∀ f ∈ ff, PySem.W.findIn K (.ref C) f = some none) ∧ H a = some (exo a C none) ∧
  ∀ (H' : Hp) (d : Addr) (fs : List (Str × V)), (∀ b o, b ≠ a → H b = some o → H' b = some o) → H d = none → H' a = some (exo a C (some d)) → H' d = some (exd d fs) → (∀ f v, (ff.zip ws).lookup f = some v → fs.lookup f = some v) → Q .non H'
/-- what is asked of a class that is raised -/
structure RzX (P : Program) (w : World) (K : PySem.W.Frag) (mg : Str → Option Value) (base : Heap) (x : Str) (C : Addr) (ff : List Str) : Prop where
  ex : ∃ fI fd, mg x = some (.ref C) ∧ OexC K C ∧ (∀ f ∈ ff, PySem.W.findIn K (.ref C) f = some none) ∧ PySem.W.findIn K (.ref C) "__init__" = some (some (.ref fI)) ∧ PySem.W.typeIn K (.ref fI) = some (.type "function") ∧
    FnOk P w K mg base CX0 1 fI fd (("self" : Str) :: ff) (spErrN K ff) ∧ Binds K fd (("self" : Str) :: ff) []
/-- the fields of a raised error, in its dict at d -/
def ErrX (H : Hp) (d : Addr) (l : List (Str × V)) : Prop := ∃ fs, H d = some (.xd fs) ∧ ∀ f v, l.lookup f = some v → fs.lookup f = some v
theorem ErrX.same {H H' : Hp} {d : Addr} {l : List (Str × V)} (x : ErrX H d l) (s : Same H H') : ErrX H' d l := by
  obtain ⟨fs, a, b⟩ := x
  exact ⟨fs, s _ _ a, b⟩
theorem ErrX.caught {H : Hp} {e C d : Addr} {l : List (Str × V)} (x : ErrX H d l) (n : H e = none) : ErrK (upd H e (exk (.ref C) (some d) e)) e C l := by
  obtain ⟨fs, a, b⟩ := x
  refine ⟨d, upd_same, fs, ?_, b⟩
  rw [upd_ne (ne_of_none a n)]
  exact a
section
variable {X : Cx} {x : Str} {C : Addr} {ff : List Str} {p pos pos' : Pos} {e : Expr} {es : List Expr} {ta : TA}
theorem ps_rz {W : WX} (R : RzX X.prog X.w X.K X.mg X.base x C ff) (hc : X.calm = true) (hr : Room 2 X.A) (tk : Takes X W) (hg : Gl X x) (ha : PA X (e :: es) ta) (hdb : (x == ("__debug__" : Str)) = false := by decide)
    (he : starEach (e :: es) X.env = (false, eval e X.env) :: starEach es X.env := by rfl) (hpl : (backTo pos (starEach es X.env)).any (·.1) = false := by rfl) :
    PS X (.Raise (some (.Call (.Name x p) (e :: es) [] pos)) none pos') (fun _ σ H => tMkO C (spErrN X.K ff) [] ta σ H fun cls d H' => W cls d σ H') := by
  obtain ⟨fI, fd, gC, o, no, iC, tI, F, b⟩ := R.ex
  exact ps_raise hc tk (pmk_oex o iC tI F hr b .nil pass0 hg gC ha hdb he hpl)
theorem rz_ok {P : Program} {w : World} {K : PySem.W.Frag} {mg : Str → Option Value} {base : Heap} {H1 : Hp} {vs : List V} {Q : XK} (R : RzX P w K mg base x C ff) (l : vs.length = ff.length) (few : ff.length ≤ 1000)
    (k : ∀ d H2, Same H1 H2 → ErrX H2 d (ff.zip vs) → Q (.ref C) (some d) H2) :
    vs.length ≤ 1000 ∧ ∀ a, H1 a = none → spErrN K ff (.ref a :: (vs ++ [])) (upd H1 a (exo a C none))
      (fun v H2 => v = .non ∧ ∃ (d : Addr) (fs : List (Str × V)), H2 a = some (exo a C (some d)) ∧ H2 d = some (exd d fs) ∧ H1 d = none ∧ Q (.ref C) (some d) (upd (del H2 a) d (.xd fs))) (fun _ _ _ => False) := by
  obtain ⟨fI, fd, gC, o, no, _⟩ := R.ex
  refine ⟨by rw [l]; exact few, fun a na => ⟨a, C, vs ++ [], rfl, by rw [List.append_nil]; exact l, o, no, upd_same, fun H' d fs keep nd ha hd look => ?_⟩⟩
  have da : d ≠ a := fun z => by
    rw [z, upd_same] at nd
    cases nd
  rw [upd_ne da] at nd
  refine ⟨rfl, d, fs, ha, hd, nd, k d _ (fun b u z => ?_) ⟨fs, upd_same, fun f v z => look f v (by rw [List.append_nil]; exact z)⟩⟩
  have ba := ne_of_none z na
  have bd := ne_of_none z nd
  rw [upd_ne bd, del_ne ba]
  exact keep b u ba (by rw [upd_ne ba]; exact z)
end
section
variable {P : Program} {w : World} {K : PySem.W.Frag} {mg : Str → Option Value} {base : Heap} {qual f g : Str} {fI : Addr} {fd : FuncData} {p1 p2 p3 q1 q2 q3 q4 r1 r2 r3 r4 : Pos}
theorem ok_init1N (F : FunD K "__init__" qual (args1 f p1 p2) (body1 f q1 q2 q3 q4) (scope1 f) [] [] fI fd) (S : FnScope ["self", f] ["self", f] (scope1 f)) (v0 : (scope1 f).names.lookup ("self" : Str) = some .local) (v1 : (scope1 f).names.lookup f = some .local)
    (d1 : (f == ("__debug__" : Str)) = false) (c1 : (f == ("__classdict__" : Str)) = false) (hs : ∀ env, swapsWith (.Name f q3) (some (.Attribute (.Name "self" q1) f q2)) q4.line env = pure false) :
    FnOk P w K mg base CX0 1 fI fd ["self", f] (spErrN K [f]) := by
  refine F.ok S (fun vs H Q E h => ?_) (fun cdv A outer s H vs Q E hr h => ?_)
  · obtain ⟨a, C, ws, rfl, l, _⟩ := h
    exact congrArg Nat.succ l
  · obtain ⟨a, C, ws, rfl, l, T, no, at_, k⟩ := h
    obtain ⟨v, rfl⟩ : ∃ v, ws = [v] := List.length_eq_one_iff.mp l
    refine ⟨_, PSs.nox (pss_one (ps_ost (pe_var (i := 0) rfl (.inl v0)) (pe_var (i := 1) rfl (.inl v1) d1 c1) (hs _))), ?_⟩
    refine ⟨v, rfl, .ref a, rfl, a, C, rfl, T, no f (List.mem_singleton.mpr rfl), .inl ⟨at_, fun dx nd ne => ?_⟩⟩
    refine k _ dx [(f, v)] (fun b o nb z => ?_) nd upd_same (by rw [upd_ne ne, upd_same]) (fun f' v' z => z)
    rw [upd_ne nb, upd_ne (ne_of_none z nd)]
    exact z
theorem ok_init2N (F : FunD K "__init__" qual (args2 f g p1 p2 p3) (body2 f g q1 q2 q3 q4 r1 r2 r3 r4) (scope2 f g) [] [] fI fd) (S : FnScope ["self", f, g] ["self", f, g] (scope2 f g)) (ng : f ≠ g) (v0 : (scope2 f g).names.lookup ("self" : Str) = some .local)
    (v1 : (scope2 f g).names.lookup f = some .local) (v2 : (scope2 f g).names.lookup g = some .local) (d1 : (f == ("__debug__" : Str)) = false) (c1 : (f == ("__classdict__" : Str)) = false) (d2 : (g == ("__debug__" : Str)) = false) (c2 : (g == ("__classdict__" : Str)) = false)
    (h1 : ∀ env, swapsWith (.Name f q3) (some (.Attribute (.Name "self" q1) f q2)) q4.line env = pure false) (h2 : ∀ env, swapsWith (.Name g r3) (some (.Attribute (.Name "self" r1) g r2)) r4.line env = pure false) :
    FnOk P w K mg base CX0 1 fI fd ["self", f, g] (spErrN K [f, g]) := by
  refine F.ok S (fun vs H Q E h => ?_) (fun cdv A outer s H vs Q E hr h => ?_)
  · obtain ⟨a, C, ws, rfl, l, _⟩ := h
    exact congrArg Nat.succ l
  · obtain ⟨a, C, ws, rfl, l, T, no, at_, k⟩ := h
    obtain ⟨v, u, rfl⟩ : ∃ v u, ws = [v, u] := by
      match ws, l with
      | [v, u], _ => exact ⟨v, u, rfl⟩
    refine ⟨_, PSs.nox (pss_cons (ps_ost (pe_var (i := 0) rfl (.inl v0)) (pe_var (i := 1) rfl (.inl v1) d1 c1) (h1 _)) (pss_one (ps_ost (pe_var (i := 0) rfl (.inl v0)) (pe_var (i := 2) rfl (.inl v2) d2 c2) (h2 _)))), ?_⟩
    refine ⟨v, rfl, .ref a, rfl, a, C, rfl, T, no f (by simp), .inl ⟨at_, fun dx nd ne => ?_⟩⟩
    refine ⟨u, rfl, .ref a, rfl, a, C, rfl, T, no g (by simp), .inr ⟨dx, [(f, v)], upd_same, by rw [upd_ne ne, upd_same], by show 1 ≤ 900; decide, ?_⟩⟩
    refine k _ dx [(g, u), (f, v)] (fun b o nb z => ?_) nd (by rw [upd_ne ne.symm, upd_same]) upd_same (fun f' v' z => ?_)
    · have nbd := ne_of_none z nd
      rw [upd_ne nbd, upd_ne nb, upd_ne nbd]
      exact z
    · have z' : List.lookup f' [(f, v), (g, u)] = some v' := z
      rw [lookup_put] at z'
      rw [lookup_put]
      by_cases e1 : f' = f
      · rw [if_pos e1] at z'
        cases z'
        rw [if_neg (fun e2 => ng (e1.symm.trans e2)), e1]
        exact look1 rfl
      · rw [if_neg e1, lookup_put] at z'
        by_cases e2 : f' = g
        · rw [if_pos e2] at z' ⊢
          exact z'
        · rw [if_neg e2] at z'
          cases z'
end
end L2.RV
set_option Elab.async false
set_option linter.all false
set_option maxRecDepth 100000
set_option maxHeartbeats 4000000
/-! What is asked of shapes, parts and tables that are handed. -/
namespace L2.K20
open PySem PySem.Spec PyProof.Rows L2.RV
/-- an instance of the class x of the text stands at a -/
def InsOf (K : PySem.W.Frag) (H : Hp) (x : Str) (a : Addr) : Prop := ∃ dx fs, H a = some (.ins (He.ga K x) dx fs)
/-- a def of one parameter that is handed an instance of x: no answer, no trace -/
def spIns (K : PySem.W.Frag) (x : Str) : Sp := fun vs H Q _ => ∃ a, vs = [.ref a] ∧ InsOf K H x a ∧ Q .non H
/-- a def whose global is x, its own name q -/
abbrev FnA (K : PySem.W.Frag) (x q : Str) (st : Stmt) (fd : FuncData) : Prop := FunD K q q (defArgs st) (defBody st) (defScope st) [] [] (He.ga K x) fd
section
variable {P : Program} {w : World} {K : PySem.W.Frag} {mg : Str → Option Value} {base : Heap} {fd : FuncData}
/-- the type of an instance of x, and whether it is one of y -/
theorem ins_kit {H : Hp} {x y : Str} {a : Addr} (o : Owns K own x) (o' : Owns K own y) (c : Cls K (He.ga K x)) (e : InsOf K H x a) (hx : x ∈ own) : TyX K H (.ref a) (.ref (He.ga K x)) ∧ PySem.W.kitOne K (.ref (He.ga K x)) (.ref (He.ga K y)) = some (decide (x = y)) := by
  obtain ⟨dx, fs, e⟩ := e
  exact ⟨ins_ty o c e, (o'.kit x hx).1⟩
theorem ok_check_shape_parts (T : Top w K mg) (R_BadPart : RzX P w K mg base "BadPart" (ca K 6) ["part"]) (F : FnA K "check_shape_parts" "check_shape" s_check_shape_parts fd) : FnOk P w K mg base (L2.CX P w) 3 (He.ga K "check_shape_parts") fd ["shape"] (spIns K "Shape") := by
  refine F.ok sc_check_shape_parts (fun vs H Q E h => ?_) (fun cdv A outer s H vs Q E hr h => ?_)
  · obtain ⟨a, rfl, _⟩ := h
    rfl
  · obtain ⟨a, rfl, o, k⟩ := h
    refine ⟨_, (pss_one (ps_if (pt_not (pt_val (pe_callB call_isi rfl T.n_isinstance (by decide +kernel) (pa_cons (pv 0) (pa_cons (pe_glob (v := .ref (He.ga K "Shape")) rfl T.g_Shape rfl) pa_nil))))) (pss_one (ps_rz R_BadPart rfl (hr.mono (by decide)) (takes_of rfl rfl rfl rfl) rfl (pa_cons pe_str pa_nil))) pss_nil)), ?_⟩
    obtain ⟨ty, kt⟩ := ins_kit T.o_Shape T.o_Shape T.k_Shape o (by decide)
    exact ⟨_, rfl, _, _, _, _, _, rfl, .own _, ty, kt, _, rfl, k⟩
theorem ok_check_shape_tables (T : Top w K mg) (R_BadTable : RzX P w K mg base "BadTable" (ca K 5) ["part"]) (F : FnA K "check_shape_tables" "check_shape" s_check_shape_tables fd) : FnOk P w K mg base (L2.CX P w) 3 (He.ga K "check_shape_tables") fd ["shape"] (spIns K "Shape") := by
  refine F.ok sc_check_shape_tables (fun vs H Q E h => ?_) (fun cdv A outer s H vs Q E hr h => ?_)
  · obtain ⟨a, rfl, _⟩ := h
    rfl
  · obtain ⟨a, rfl, o, k⟩ := h
    refine ⟨_, (pss_one (ps_if (pt_not (pt_val (pe_callB call_isi rfl T.n_isinstance (by decide +kernel) (pa_cons (pv 0) (pa_cons (pe_glob (v := .ref (He.ga K "Shape")) rfl T.g_Shape rfl) pa_nil))))) (pss_one (ps_rz R_BadTable rfl (hr.mono (by decide)) (takes_of rfl rfl rfl rfl) rfl (pa_cons pe_str pa_nil))) pss_nil)), ?_⟩
    obtain ⟨ty, kt⟩ := ins_kit T.o_Shape T.o_Shape T.k_Shape o (by decide)
    exact ⟨_, rfl, _, _, _, _, _, rfl, .own _, ty, kt, _, rfl, k⟩
theorem ok_check_shape_questions (T : Top w K mg) (R_BadQuestion : RzX P w K mg base "BadQuestion" (ca K 7) ["part"]) (F : FnA K "check_shape_questions" "check_shape" s_check_shape_questions fd) : FnOk P w K mg base (L2.CX P w) 3 (He.ga K "check_shape_questions") fd ["shape"] (spIns K "Shape") := by
  refine F.ok sc_check_shape_questions (fun vs H Q E h => ?_) (fun cdv A outer s H vs Q E hr h => ?_)
  · obtain ⟨a, rfl, _⟩ := h
    rfl
  · obtain ⟨a, rfl, o, k⟩ := h
    refine ⟨_, (pss_one (ps_if (pt_not (pt_val (pe_callB call_isi rfl T.n_isinstance (by decide +kernel) (pa_cons (pv 0) (pa_cons (pe_glob (v := .ref (He.ga K "Shape")) rfl T.g_Shape rfl) pa_nil))))) (pss_one (ps_rz R_BadQuestion rfl (hr.mono (by decide)) (takes_of rfl rfl rfl rfl) rfl (pa_cons pe_str pa_nil))) pss_nil)), ?_⟩
    obtain ⟨ty, kt⟩ := ins_kit T.o_Shape T.o_Shape T.k_Shape o (by decide)
    exact ⟨_, rfl, _, _, _, _, _, rfl, .own _, ty, kt, _, rfl, k⟩
end
end L2.K20
set_option Elab.async false
set_option linter.all false
set_option maxRecDepth 100000
set_option maxHeartbeats 4000000
/-! Shapes as they stand. -/
namespace L2.K20
open PySem PySem.Spec PyProof.Rows L2.RV
/-- the places of a shape, in order -/
def placesOf (ks : List Str) (d : Nat) : List (Str × Nat) := ks.flatMap fun k => (List.range d).map fun i => (k, i)
def plV (p : Str × Nat) : List V := [.str p.1, .int p.2]
def plK (p : Str × Nat) : List L2.Key := [.inr p.1, .inl p.2]
/-- keys and days of a shape -/
structure ShOk (ks : List Str) (d : Nat) : Prop where
  nd : ks.Nodup
  names : ∀ x ∈ ks, isName x = true
  k1 : 1 ≤ ks.length
  k6 : ks.length ≤ 6
  d1 : 1 ≤ d
  d8 : d ≤ 8
  few : ks.length * d ≤ 36
/-- a shape stands at a: its keys in order, its days -/
structure ShapeAt (K : PySem.W.Frag) (H : Hp) (a : Addr) (ks : List Str) (d : Nat) : Prop where
  ex : ∃ (dx t1 t2 t3 : Addr) (ps : List Addr), H a = some (.ins (He.ga K "Shape") dx [("key_names", .ref t1), ("days", .int d), ("places", .ref t2), ("indexes", .ref t3)]) ∧ H dx = some (.own a) ∧ Rd H t1 (.tup (ks.map V.str)) ∧ Rd H t2 (.tup (ps.map V.ref)) ∧
    ps.length = (placesOf ks d).length ∧ (∀ (i : Nat) (p : Str × Nat) (b : Addr), (placesOf ks d)[i]? = some p → ps[i]? = some b → H b = some (.tup (plV p))) ∧ Rd H t3 (.dT ((placesOf ks d).zipIdx.map fun z => (plK z.1, .int z.2)))
  good : (ks.all fun x => PyData.strOk x) = true
  ok : ShOk ks d
theorem ShapeAt.ins {K : PySem.W.Frag} {H : Hp} {a : Addr} {ks : List Str} {d : Nat} (s : ShapeAt K H a ks d) : InsOf K H "Shape" a := by
  obtain ⟨dx, t1, t2, t3, ps, e, _⟩ := s.ex
  exact ⟨_, _, e⟩
def keysD (ks : List Str) : PyData := .tuple (ks.map PyData.str)
theorem shaped_keys {xs : List Str} (h : (xs.all fun x => PyData.strOk x) = true) : SeqAt.shaped (keysD xs) = true := by
  have z := deep_str xs
  have e : PyData.canLay0 (.tuple (xs.map PyData.str)) = true := by simp only [PyData.canLay0]; exact lay_str xs h
  have d : (PyData.tuple (xs.map PyData.str)).depth ≤ 64 := by simp only [PyData.depth]; omega
  unfold SeqAt.shaped keysD
  rw [e, decide_eq_true d]
  rfl
def shapeEq (ks : List Str) (d : Nat) (ls : List Str) (e : Nat) : Bool := PyData.eqv (keysD ks) (keysD ls) && decide (V.int (d : Int) = V.int (e : Int))
/-- shape == shape -/
def spShapeEq (K : PySem.W.Frag) : Sp := fun vs H Q _ => ∃ a b ks d ls e, vs = [.ref a, .ref b] ∧ ShapeAt K H a ks d ∧ ShapeAt K H b ls e ∧ Q (.bl (shapeEq ks d ls e)) H
section
variable {P : Program} {w : World} {K : PySem.W.Frag} {mg : Str → Option Value} {base : Heap} {fd : FuncData}
theorem ok_shape_eq (T : Top w K mg) {f : Addr} (F : FunD K "__eq__" "Shape.__eq__" (defArgs s_Shape_eq) (defBody s_Shape_eq) (defScope s_Shape_eq) [] [] f fd) : FnOk P w K mg base CX0 2 f fd ["self", "other"] (spShapeEq K) := by
  refine F.ok sc_Shape_eq (fun vs H Q E h => ?_) (fun cdv A outer s H vs Q E hr h => ?_)
  · obtain ⟨a, b, ks, d, ls, e, rfl, _⟩ := h
    rfl
  · obtain ⟨a, b, ks, d, ls, e, rfl, s1, s2, k⟩ := h
    have hu := hr.units
    refine ⟨_, PSs.nox (pss_one (ps_ret (pe_and (pe_callB call_isi rfl T.n_isinstance (by decide +kernel) (pa_cons (pv 1) (pa_cons (pe_glob (v := .ref (He.ga K "Shape")) rfl T.g_Shape rfl) pa_nil)))
      (pe_and (pe_cmpR (op_same hu) (pe_fld (pv 0) rfl) (pe_fld (pv 1) rfl) (nomark _)) (pe_one (pe_cmpR (op_same hu) (pe_fld (pv 0) rfl) (pe_fld (pv 1) rfl) (nomark _))))))), ?_⟩
    obtain ⟨ty, kt⟩ := ins_kit T.o_Shape T.o_Shape T.k_Shape s2.ins (by decide)
    refine ⟨_, rfl, _, _, _, _, _, rfl, .own _, ty, kt, _, rfl, ?_⟩
    obtain ⟨dx, t1, t2, t3, ps, e1, _, q1, _⟩ := s1.ex
    obtain ⟨dy, u1, u2, u3, qs, e2, _, q2, _⟩ := s2.ex
    refine ⟨_, rfl, a, _, dx, _, _, rfl, e1, T.k_Shape, T.a_Shape_key_names, rfl, _, rfl, b, _, dy, _, _, rfl, e2, T.k_Shape, T.a_Shape_key_names, rfl, ?_⟩
    refine .inr ⟨keysD ks, keysD ls, .tup (.inl q1) (dpA_str ks), .tup (.inl q2) (dpA_str ls), shaped_keys s1.good, shaped_keys s2.good, _, rfl, ?_⟩
    unfold shapeEq at k
    cases c : PyData.eqv (keysD ks) (keysD ls) with
    | false =>
      rw [c] at k
      exact k
    | true =>
      rw [c, Bool.true_and] at k
      refine ⟨_, rfl, a, _, dx, _, _, rfl, e1, T.k_Shape, T.a_Shape_days, rfl, _, rfl, b, _, dy, _, _, rfl, e2, T.k_Shape, T.a_Shape_days, rfl, ?_⟩
      exact .inl ⟨rfl, k⟩
end
end L2.K20
set_option Elab.async false
set_option linter.all false
set_option maxRecDepth 100000
set_option maxHeartbeats 4000000
/-! Whether a place is a shape's. -/
namespace L2.K20
open PySem PySem.Spec PyProof.Rows L2.RV
/-- the place's tuple stands at b -/
def PlAt (H : Hp) (b : Addr) (p : Str × Nat) : Prop := H b = some (.tup (plV p))
/-- place in shape -/
def spShapeIn (K : PySem.W.Frag) : Sp := fun vs H Q _ => ∃ a b ks d p, vs = [.ref a, .ref b] ∧ ShapeAt K H a ks d ∧ PlAt H b p ∧ Q (.bl (decide (p ∈ placesOf ks d))) H
theorem valV_places {p : Str × Nat} : ∀ (l : List (Str × Nat)) (n : Nat), (valV ((l.zipIdx n).map fun z => (plK z.1, V.int z.2)) (plK p)).isSome = decide (p ∈ l)
  | [], n => by simp [valV]
  | q :: l, n => by
    have z := valV_places (p := p) l (n + 1)
    by_cases e : q = p
    · subst e
      rw [List.zipIdx_cons, List.map_cons, valV_pos rfl]
      simp
    · have ne : ¬ plK q = plK p := fun h => e (by
        unfold plK at h
        simp only [List.cons.injEq, Sum.inr.injEq, Sum.inl.injEq, and_true] at h
        exact Prod.ext h.1 (by omega))
      rw [List.zipIdx_cons, List.map_cons, valV_neg ne, z]
      have ne' : ¬ p = q := fun h => e h.symm
      simp [ne']
section
variable {P : Program} {w : World} {K : PySem.W.Frag} {mg : Str → Option Value} {base : Heap} {fd : FuncData}
theorem ok_shape_in (T : Top w K mg) (D_is_whole : Def P w K mg base "is_whole" 1 ["value"] (spWhole K)) {f : Addr} (F : FunD K "__contains__" "Shape.__contains__" (defArgs s_Shape_contains) (defBody s_Shape_contains) (defScope s_Shape_contains) [] [] f fd) : FnOk P w K mg base CX0 3 f fd ["self", "x"] (spShapeIn K) := by
  refine F.ok sc_Shape_contains (fun vs H Q E h => ?_) (fun cdv A outer s H vs Q E hr h => ?_)
  · obtain ⟨a, b, ks, d, p, rfl, _⟩ := h
    rfl
  · obtain ⟨a, b, ks, d, p, rfl, s1, pb, k⟩ := h
    have hu := hr.units
    refine ⟨_, PSs.nox (pss_cons (ps_if (PW.pt (pw_or (pt_not (pt_val (pe_callB call_isi rfl T.n_isinstance (by decide +kernel) (pa_cons (pv 1) (pa_cons (pe_bltn (v := .ty "tuple") (u := .type "tuple") rfl T.n_tuple (by decide +kernel) rfl) pa_nil)))))
      (pw_or1 (pt_cmpR (op_diff hu) (pe_callB call_len rfl T.n_len (by decide +kernel) (pa_cons (pv 1) pa_nil)) pe_int (nomark _))))) (pss_one (ps_ret pe_bl)) pss_nil)
      (pss_cons (ps_asg (pv 1) (pg_tup rfl (pgs_cons (pg_name (i := 2) sc_Shape_contains.nd rfl (by first | exact Or.inl rfl | exact Or.inr rfl)) (pgs_cons (pg_name (i := 3) sc_Shape_contains.nd rfl (by first | exact Or.inl rfl | exact Or.inr rfl)) pgs_nil))))
      (pss_one (ps_ret (pe_and (pe_callB call_isi rfl T.n_isinstance (by decide +kernel) (pa_cons (pv 2) (pa_cons (pe_bltn (v := .ty "str") (u := .type "str") rfl T.n_str (by decide +kernel) rfl) pa_nil)))
        (pe_and (pe_callD D_is_whole (hr.mono (by decide)) rfl (pa_cons (pv 3) pa_nil)) (pe_one (pe_cmp (pc_din (Nat.lt_of_le_of_lt (Nat.add_le_add_left (by decide) _) hu) (pv 1) (pe_fld (pv 0) rfl)) rfl)))))))), ?_⟩
    have tb : TyX K H (.ref b) (.type "tuple") := .base (.tup pb)
    refine ⟨_, rfl, _, _, _, _, _, rfl, .ty "tuple", tb, kit_ty (by decide +kernel : kitB "tuple" "tuple" = some true), _, rfl, ?_⟩
    refine (if_neg (by decide : ¬ ((!true) = true))).mpr ?_
    refine ⟨_, rfl, _, _, rfl, .inr ⟨plV p, SqT.of pb, rfl⟩, .inl ⟨rfl, _, rfl, ?_⟩⟩
    refine (if_neg (by show ¬ (!decide (V.int 2 = V.int 2)) = true; decide)).mpr ?_
    refine ⟨_, rfl, b, plV p, rfl, SqT.of pb, rfl, _, _, rfl, _, _, rfl, rfl, ?_⟩
    obtain ⟨n, ty, ki, kb, kt⟩ := (kinds_str (K := K) (H := H) p.1).ex
    refine ⟨_, rfl, _, _, _, _, _, rfl, .ty "str", ty, kit_ty kt, _, rfl, ?_⟩
    refine ⟨_, rfl, .int p.2, rfl, kinds_int _, _, rfl, ?_⟩
    obtain ⟨dx, t1, t2, t3, ps, e1, _, _, _, _, _, e3⟩ := s1.ex
    refine ⟨_, rfl, _, rfl, a, _, dx, _, _, rfl, e1, T.k_Shape, T.a_Shape_indexes, rfl, t3, _, rfl, (.inr ⟨_, plK p, b, e3, rfl, pb, rfl⟩), ?_⟩
    rw [valV_places]
    exact k
end
end L2.K20
set_option Elab.async false
set_option linter.all false
set_option maxRecDepth 100000
set_option maxHeartbeats 4000000
/-! Parts, tables and questions of a shape. -/
namespace L2.K20
open PySem PySem.Spec PyProof.Rows L2.RV
/-- an instance of x at a, its shape at s -/
def OfShape (K : PySem.W.Frag) (H : Hp) (x : Str) (a s : Addr) : Prop := ∃ dx fs, H a = some (.ins (He.ga K x) dx fs) ∧ fs.lookup ("shape" : Str) = some (V.ref s)
theorem OfShape.ins {K : PySem.W.Frag} {H : Hp} {x : Str} {a s : Addr} (o : OfShape K H x a s) : InsOf K H x a := by
  obtain ⟨dx, fs, e, _⟩ := o
  exact ⟨_, _, e⟩
/-- is_part_of(value, shape) and the like, value of this very class -/
def spIsOf (K : PySem.W.Frag) (x : Str) : Sp := fun vs H Q _ => ∃ a b s ks d ls e, vs = [.ref a, .ref b] ∧ OfShape K H x a s ∧ ShapeAt K H s ks d ∧ ShapeAt K H b ls e ∧ Q (.bl (shapeEq ks d ls e)) H
section
variable {P : Program} {w : World} {K : PySem.W.Frag} {mg : Str → Option Value} {base : Heap} {fd : FuncData}
theorem ok_is_part_of (T : Top w K mg) (S : MethS CX0 P w K mg base (He.ga K "Shape") "__eq__" 2 ["self", "other"] (spShapeEq K)) (F : Fn K "is_part_of" s_is_part_of fd) : FnOk P w K mg base CX0 3 (He.ga K "is_part_of") fd ["value", "shape"] (spIsOf K "Part") := by
  refine F.ok sc_is_part_of (fun vs H Q E h => ?_) (fun cdv A outer s H vs Q E hr h => ?_)
  · obtain ⟨a, b, s, ks, d, ls, e, rfl, _⟩ := h
    rfl
  · obtain ⟨a, b, s, ks, d, ls, e, rfl, o, s1, s2, k⟩ := h
    refine ⟨_, PSs.nox (pss_one (ps_ret (pe_and (pe_callB call_isi rfl T.n_isinstance (by decide +kernel) (pa_cons (pv 0) (pa_cons (pe_glob (v := .ref (He.ga K "Part")) rfl T.g_Part rfl) pa_nil)))
      (pe_one (pe_cmpR (op_eqO S (hr.mono (by decide)) pass_CX0) (pe_fld (pv 0) rfl) (pv 1) (nomark _)))))), ?_⟩
    obtain ⟨ty, kt⟩ := ins_kit T.o_Part T.o_Part T.k_Part o.ins (by decide)
    refine ⟨_, rfl, _, _, _, _, _, rfl, .own _, ty, kt, _, rfl, ?_⟩
    obtain ⟨dx, fs, e1, e2⟩ := o
    obtain ⟨dy, gs, e3⟩ := s1.ins
    obtain ⟨ty2, _⟩ := ins_kit T.o_Shape T.o_Shape T.k_Shape s2.ins (by decide)
    refine ⟨_, rfl, a, _, dx, _, _, rfl, e1, T.k_Part, T.a_Part_shape, e2, _, rfl, s, dy, gs, _, rfl, e3, ty2, (T.o_Shape.kit "Shape" (by decide)).2, ?_⟩
    exact ⟨s, b, ks, d, ls, e, rfl, s1, s2, k⟩
theorem ok_is_table_of (T : Top w K mg) (S : MethS CX0 P w K mg base (He.ga K "Shape") "__eq__" 2 ["self", "other"] (spShapeEq K)) (F : Fn K "is_table_of" s_is_table_of fd) : FnOk P w K mg base CX0 3 (He.ga K "is_table_of") fd ["value", "shape"] (spIsOf K "Table") := by
  refine F.ok sc_is_table_of (fun vs H Q E h => ?_) (fun cdv A outer s H vs Q E hr h => ?_)
  · obtain ⟨a, b, s, ks, d, ls, e, rfl, _⟩ := h
    rfl
  · obtain ⟨a, b, s, ks, d, ls, e, rfl, o, s1, s2, k⟩ := h
    refine ⟨_, PSs.nox (pss_one (ps_ret (pe_and (pe_callB call_isi rfl T.n_isinstance (by decide +kernel) (pa_cons (pv 0) (pa_cons (pe_glob (v := .ref (He.ga K "Table")) rfl T.g_Table rfl) pa_nil)))
      (pe_one (pe_cmpR (op_eqO S (hr.mono (by decide)) pass_CX0) (pe_fld (pv 0) rfl) (pv 1) (nomark _)))))), ?_⟩
    obtain ⟨ty, kt⟩ := ins_kit T.o_Table T.o_Table T.k_Table o.ins (by decide)
    refine ⟨_, rfl, _, _, _, _, _, rfl, .own _, ty, kt, _, rfl, ?_⟩
    obtain ⟨dx, fs, e1, e2⟩ := o
    obtain ⟨dy, gs, e3⟩ := s1.ins
    obtain ⟨ty2, _⟩ := ins_kit T.o_Shape T.o_Shape T.k_Shape s2.ins (by decide)
    refine ⟨_, rfl, a, _, dx, _, _, rfl, e1, T.k_Table, T.a_Table_shape, e2, _, rfl, s, dy, gs, _, rfl, e3, ty2, (T.o_Shape.kit "Shape" (by decide)).2, ?_⟩
    exact ⟨s, b, ks, d, ls, e, rfl, s1, s2, k⟩
theorem ok_is_question_of (T : Top w K mg) (S : MethS CX0 P w K mg base (He.ga K "Shape") "__eq__" 2 ["self", "other"] (spShapeEq K)) (F : Fn K "is_question_of" s_is_question_of fd) : FnOk P w K mg base CX0 3 (He.ga K "is_question_of") fd ["value", "shape"] (spIsOf K "Question") := by
  refine F.ok sc_is_question_of (fun vs H Q E h => ?_) (fun cdv A outer s H vs Q E hr h => ?_)
  · obtain ⟨a, b, s, ks, d, ls, e, rfl, _⟩ := h
    rfl
  · obtain ⟨a, b, s, ks, d, ls, e, rfl, o, s1, s2, k⟩ := h
    refine ⟨_, PSs.nox (pss_one (ps_ret (pe_and (pe_callB call_isi rfl T.n_isinstance (by decide +kernel) (pa_cons (pv 0) (pa_cons (pe_glob (v := .ref (He.ga K "Question")) rfl T.g_Question rfl) pa_nil)))
      (pe_one (pe_cmpR (op_eqO S (hr.mono (by decide)) pass_CX0) (pe_fld (pv 0) rfl) (pv 1) (nomark _)))))), ?_⟩
    obtain ⟨ty, kt⟩ := ins_kit T.o_Question T.o_Question T.k_Question o.ins (by decide)
    refine ⟨_, rfl, _, _, _, _, _, rfl, .own _, ty, kt, _, rfl, ?_⟩
    obtain ⟨dx, fs, e1, e2⟩ := o
    obtain ⟨dy, gs, e3⟩ := s1.ins
    obtain ⟨ty2, _⟩ := ins_kit T.o_Shape T.o_Shape T.k_Shape s2.ins (by decide)
    refine ⟨_, rfl, a, _, dx, _, _, rfl, e1, T.k_Question, T.a_Question_shape, e2, _, rfl, s, dy, gs, _, rfl, e3, ty2, (T.o_Shape.kit "Shape" (by decide)).2, ?_⟩
    exact ⟨s, b, ks, d, ls, e, rfl, s1, s2, k⟩
end
end L2.K20
set_option Elab.async false
set_option linter.all false
set_option maxRecDepth 100000
set_option maxHeartbeats 4000000
/-! The other one is of the same shape. -/
namespace L2.K20
open PySem PySem.Spec PyProof.Rows L2.RV
/-- check_other(one, other), both of the class x, of equal shapes -/
def spOther (K : PySem.W.Frag) (x : Str) : Sp := fun vs H Q _ => ∃ a b s t ks d ls e, vs = [.ref a, .ref b] ∧ OfShape K H x a s ∧ OfShape K H x b t ∧ ShapeAt K H s ks d ∧ ShapeAt K H t ls e ∧ shapeEq ls e ks d = true ∧ Q .non H
section
variable {P : Program} {w : World} {K : PySem.W.Frag} {mg : Str → Option Value} {base : Heap} {fd : FuncData}
theorem ok_check_other_parts (T : Top w K mg) (D_is_part_of : Def P w K mg base "is_part_of" 3 ["value", "shape"] (spIsOf K "Part")) (R_BadPart : RzX P w K mg base "BadPart" (ca K 6) ["part"]) (F : FnA K "check_other_parts" "check_other" s_check_other_parts fd) : FnOk P w K mg base (L2.CX P w) 4 (He.ga K "check_other_parts") fd ["part", "other"] (spOther K "Part") := by
  refine F.ok sc_check_other_parts (fun vs H Q E h => ?_) (fun cdv A outer s H vs Q E hr h => ?_)
  · obtain ⟨a, b, s, t, ks, d, ls, e, rfl, _⟩ := h
    rfl
  · obtain ⟨a, b, s, t, ks, d, ls, e, rfl, o1, o2, s1, s2, eq, k⟩ := h
    refine ⟨_, (pss_one (ps_if (pt_not (pt_val (pe_callD D_is_part_of (hr.mono (by decide)) rfl (pa_cons (pv 1) (pa_cons (pe_fld (pv 0) rfl) pa_nil))))) (pss_one (ps_rz R_BadPart rfl (hr.mono (by decide)) (takes_of rfl rfl rfl rfl) rfl (pa_cons pe_str pa_nil))) pss_nil)), ?_⟩
    obtain ⟨dx, fs, e1, e2⟩ := o1
    refine ⟨_, rfl, _, rfl, a, _, dx, _, _, rfl, e1, T.k_Part, T.a_Part_shape, e2, b, s, t, ls, e, ks, d, rfl, o2, s2, s1, _, rfl, ?_⟩
    rw [eq]
    exact k
theorem ok_check_other_questions (T : Top w K mg) (D_is_question_of : Def P w K mg base "is_question_of" 3 ["value", "shape"] (spIsOf K "Question")) (R_BadQuestion : RzX P w K mg base "BadQuestion" (ca K 7) ["part"]) (F : FnA K "check_other_questions" "check_other" s_check_other_questions fd) : FnOk P w K mg base (L2.CX P w) 4 (He.ga K "check_other_questions") fd ["question", "other"] (spOther K "Question") := by
  refine F.ok sc_check_other_questions (fun vs H Q E h => ?_) (fun cdv A outer s H vs Q E hr h => ?_)
  · obtain ⟨a, b, s, t, ks, d, ls, e, rfl, _⟩ := h
    rfl
  · obtain ⟨a, b, s, t, ks, d, ls, e, rfl, o1, o2, s1, s2, eq, k⟩ := h
    refine ⟨_, (pss_one (ps_if (pt_not (pt_val (pe_callD D_is_question_of (hr.mono (by decide)) rfl (pa_cons (pv 1) (pa_cons (pe_fld (pv 0) rfl) pa_nil))))) (pss_one (ps_rz R_BadQuestion rfl (hr.mono (by decide)) (takes_of rfl rfl rfl rfl) rfl (pa_cons pe_str pa_nil))) pss_nil)), ?_⟩
    obtain ⟨dx, fs, e1, e2⟩ := o1
    refine ⟨_, rfl, _, rfl, a, _, dx, _, _, rfl, e1, T.k_Question, T.a_Question_shape, e2, b, s, t, ls, e, ks, d, rfl, o2, s2, s1, _, rfl, ?_⟩
    rw [eq]
    exact k
end
end L2.K20
set_option Elab.async false
set_option linter.all false
set_option maxRecDepth 100000
set_option maxHeartbeats 4000000
/-! table[place], question[place]. -/
namespace L2.K20
open PySem PySem.Spec PyProof.Rows L2.RV
abbrev Pl : Type := Str × Nat
/-- what a dict by places holds -/
def plD (ws : List (Pl × Int)) : List (List L2.Key × V) := ws.map fun z => (plK z.1, V.int z.2)
def atD (ws : List (Pl × Int)) (p : Pl) : Int := ((ws.find? fun z => decide (z.1 = p)).map (·.2)).getD 0
theorem plK_inj {p q : Pl} : plK p = plK q ↔ p = q := by
  constructor
  · intro h
    unfold plK at h
    simp only [List.cons.injEq, Sum.inr.injEq, Sum.inl.injEq, and_true] at h
    exact Prod.ext h.1 (by omega)
  · rintro rfl
    rfl
theorem valV_plD {p : Pl} : ∀ ws : List (Pl × Int), (valV (plD ws) (plK p)).getD (V.int 0) = V.int (atD ws p)
  | [] => rfl
  | z :: ws => by
    have r := valV_plD (p := p) ws
    unfold plD atD at r ⊢
    by_cases e : z.1 = p
    · rw [List.map_cons, valV_pos (by rw [e]), List.find?_cons_of_pos (by simpa using e)]
      rfl
    · rw [List.map_cons, valV_neg (fun h => e (plK_inj.mp h)), List.find?_cons_of_neg (by simpa using e)]
      exact r
/-- an instance of x with the shape at s, and its dict by places under the name f -/
def Held (K : PySem.W.Frag) (H : Hp) (x f : Str) (a s : Addr) (ws : List (Pl × Int)) : Prop := ∃ dx fs t, H a = some (.ins (He.ga K x) dx fs) ∧ fs.lookup ("shape" : Str) = some (V.ref s) ∧ fs.lookup f = some (V.ref t) ∧ Rd H t (.dT (plD ws))
/-- o[place], the place in o's shape -/
def spAt (K : PySem.W.Frag) (x f : Str) : Sp := fun vs H Q _ => ∃ a b s ks d ws p, vs = [.ref a, .ref b] ∧ Held K H x f a s ws ∧ ShapeAt K H s ks d ∧ PlAt H b p ∧ p ∈ placesOf ks d ∧ Q (.int (atD ws p)) H
section
variable {P : Program} {w : World} {K : PySem.W.Frag} {mg : Str → Option Value} {base : Heap} {fd : FuncData}
theorem ok_Table_at (T : Top w K mg) (S : MethS CX0 P w K mg base (He.ga K "Shape") "__contains__" 3 ["self", "x"] (spShapeIn K)) (R_BadPlace : RzX P w K mg base "BadPlace" (ca K 9) ["value"]) {f : Addr} (F : FunD K "__getitem__" "Table.__getitem__" (defArgs s_Table_getitem) (defBody s_Table_getitem) (defScope s_Table_getitem) [] [] f fd) : FnOk P w K mg base (L2.CX P w) 4 f fd ["self", "at"] (spAt K "Table" "amounts") := by
  refine F.ok sc_Table_getitem (fun vs H Q E h => ?_) (fun cdv A outer s H vs Q E hr h => ?_)
  · obtain ⟨a, b, s, ks, d, ws, p, rfl, _⟩ := h
    rfl
  · obtain ⟨a, b, s, ks, d, ws, p, rfl, o, s1, pb, hp, k⟩ := h
    have hu := hr.units
    refine ⟨_, (pss_cons (ps_if (pt_cmpR (op_notInO S (hr.mono (by decide)) pass_CX0) (pv 1) (pe_fld (pv 0) rfl) rfl) (pss_one (ps_rz R_BadPlace rfl (hr.mono (by decide)) (takes_of rfl rfl rfl rfl) rfl (pa_cons (pv 1) pa_nil))) pss_nil)
      (pss_one (ps_ret (pe_dget2 (Nat.lt_of_le_of_lt (Nat.add_le_add_left (by decide) _) hu) (pe_fld (pv 0) rfl) (pv 1) pe_int ⟨rfl, rfl, rfl, rfl⟩)))), ?_⟩
    obtain ⟨dx, fs, t, e1, e2, e3, e4⟩ := o
    obtain ⟨dy, gs, e5⟩ := s1.ins
    refine ⟨_, rfl, _, rfl, a, _, dx, _, _, rfl, e1, T.k_Table, T.a_Table_shape, e2, s, dy, gs, rfl, e5, s, b, ks, d, p, rfl, s1, pb, _, rfl, _, rfl, ?_⟩
    rw [decide_eq_true hp]
    refine ⟨_, rfl, a, _, dx, _, _, rfl, e1, T.k_Table, T.a_Table_amounts, e3, t, rfl, .inr ⟨_, e4⟩, _, rfl, _, (.inr ⟨_, plK p, b, e4, rfl, pb, rfl⟩), ?_⟩
    rw [valV_plD]
    exact k
theorem ok_Question_at (T : Top w K mg) (S : MethS CX0 P w K mg base (He.ga K "Shape") "__contains__" 3 ["self", "x"] (spShapeIn K)) (R_BadPlace : RzX P w K mg base "BadPlace" (ca K 9) ["value"]) {f : Addr} (F : FunD K "__getitem__" "Question.__getitem__" (defArgs s_Question_getitem) (defBody s_Question_getitem) (defScope s_Question_getitem) [] [] f fd) : FnOk P w K mg base (L2.CX P w) 4 f fd ["self", "at"] (spAt K "Question" "weights") := by
  refine F.ok sc_Question_getitem (fun vs H Q E h => ?_) (fun cdv A outer s H vs Q E hr h => ?_)
  · obtain ⟨a, b, s, ks, d, ws, p, rfl, _⟩ := h
    rfl
  · obtain ⟨a, b, s, ks, d, ws, p, rfl, o, s1, pb, hp, k⟩ := h
    have hu := hr.units
    refine ⟨_, (pss_cons (ps_if (pt_cmpR (op_notInO S (hr.mono (by decide)) pass_CX0) (pv 1) (pe_fld (pv 0) rfl) rfl) (pss_one (ps_rz R_BadPlace rfl (hr.mono (by decide)) (takes_of rfl rfl rfl rfl) rfl (pa_cons (pv 1) pa_nil))) pss_nil)
      (pss_one (ps_ret (pe_dget2 (Nat.lt_of_le_of_lt (Nat.add_le_add_left (by decide) _) hu) (pe_fld (pv 0) rfl) (pv 1) pe_int ⟨rfl, rfl, rfl, rfl⟩)))), ?_⟩
    obtain ⟨dx, fs, t, e1, e2, e3, e4⟩ := o
    obtain ⟨dy, gs, e5⟩ := s1.ins
    refine ⟨_, rfl, _, rfl, a, _, dx, _, _, rfl, e1, T.k_Question, T.a_Question_shape, e2, s, dy, gs, rfl, e5, s, b, ks, d, p, rfl, s1, pb, _, rfl, _, rfl, ?_⟩
    rw [decide_eq_true hp]
    refine ⟨_, rfl, a, _, dx, _, _, rfl, e1, T.k_Question, T.a_Question_weights, e3, t, rfl, .inr ⟨_, e4⟩, _, rfl, _, (.inr ⟨_, plK p, b, e4, rfl, pb, rfl⟩), ?_⟩
    rw [valV_plD]
    exact k
end
end L2.K20
set_option Elab.async false
set_option linter.all false
set_option maxRecDepth 100000
set_option maxHeartbeats 4000000
/-! Loops over a list or a tuple, plainly and by enumerate. -/
namespace PySem
open Sem (wp)
open AutoSeq1 (wpAny_loadPart')
theorem meets_enumerate_newT (t : Addr) (items : Array Value) (o : Obj) (n : Nat) (hc : o.cls = .type "tuple") (hd : o.data = .seq items n) :
    Meets (Builtin.«enumerate.__new__» ⟨[.type "enumerate", .ref t], []⟩) (fun _ R s => s.heap.get? t = some o ∧
      R (.ok (.ret (.ref (s.heap.push { cls := .type "tuple_iterator", data := .fields #[.ref t, .int 0 0] }).objs.size)))
        { s with heap := (s.heap.push { cls := .type "tuple_iterator", data := .fields #[.ref t, .int 0 0] }).push { cls := .type "enumerate", data := .fields #[.none, .bool false, .ref s.heap.objs.size, rawInt 0, .none, .none] } }) :=
  .of_wp fun prog w A R s h => by
    obtain ⟨hp, g, d, tk, os⟩ := s; obtain ⟨hl, h⟩ := h
    have hsub := sub_enumerate
    have hL : Heap.IsTuple (Shared.heap ⟨hp, g, d, tk, os⟩) t items := ⟨_, hl, hc, n, hd⟩
    wp_walk using wpAny_loadPart' hl
    refine wpAny_stack_any fun st => wpAny_pure ?_
    split
    · rename_i c _ _ _ _ _
      cases (c == Value.type "enumerate")
      · wp_walk using wpAny_loadPart' hl, wpAny_pyIter_tuple hL
        exact ⟨_, rfl, h⟩
      · wp_walk using wpAny_loadPart' hl, wpAny_pyIter_tuple hL
        exact ⟨_, rfl, h⟩
    · wp_walk using wpAny_loadPart' hl, wpAny_pyIter_tuple hL
      exact ⟨_, rfl, h⟩
section
variable {prog : Program} {w : World} {A : Around} {E : Value → Shared → Prop} {s : Shared}
theorem call_enumerate_tuple {t : Addr} {items : Array Value} {Q : Value → Shared → Prop} (hL : s.heap.IsTuple t items)
    (h : ∀ h', IsEnum h' (s.heap.objs.size + 1) s.heap.objs.size 0 .none → h'.IsTupleIter s.heap.objs.size t 0 → h'.objs.size = s.heap.objs.size + 2 →
      (∀ b o, s.heap.get? b = some o → h'.get? b = some o) → Q (.ref (s.heap.objs.size + 1)) { s with heap := h' }) :
    wpAny (model prog w) A (call (.type "enumerate") [.ref t]) Q E s := by
  obtain ⟨ob, hl, hc, n, hd⟩ := hL
  refine callType_new F.called_enumerate (by decide) (F.typeCall_enumerate_1 _) (F.newCall_enumerate_1 _) (fun obj => F.args_object_init_2 obj _) F.entry_enumerate_new
    (meets_enumerate_newT t items ob n hc hd) ⟨hl, ?_⟩
  have hz : (s.heap.push { cls := .type "tuple_iterator", data := .fields #[.ref t, .int 0 0] }).objs.size = s.heap.objs.size + 1 := Heap.size_push ..
  show _ ∧ _
  rw [hz]
  have he : IsEnum ((s.heap.push { cls := .type "tuple_iterator", data := .fields #[.ref t, .int 0 0] }).push
      { cls := .type "enumerate", data := .fields #[.none, .bool false, .ref s.heap.objs.size, rawInt 0, .none, .none] }) (s.heap.objs.size + 1) s.heap.objs.size 0 .none := by
    have := Heap.get?_push_size (s.heap.push { cls := .type "tuple_iterator", data := .fields #[.ref t, .int 0 0] })
      (o := { cls := .type "enumerate", data := .fields #[.none, .bool false, .ref s.heap.objs.size, rawInt 0, .none, .none] }) rfl
    rw [hz] at this; exact this
  refine ⟨⟨_, he, rfl⟩, h _ he ⟨_, Heap.get?_push_of_some _ (Heap.get?_push_size _ rfl), rfl, rfl⟩ (by rw [Heap.size_push, hz]) fun b o x => Heap.get?_push_of_some _ (Heap.get?_push_of_some _ x)⟩
end
end PySem

namespace L2.RV
open PySem PySem.Spec PyProof.Rows
/-- the tuple at a, each item in a new pair with its index -/
def Itet (K : PySem.W.Frag) (a : Addr) : It :=
  ⟨fun i H => ∃ (xs : List V) (x : V), SqT K H a xs ∧ xs[i]? = some x, fun i H v H' => ∃ T x, v = .ref T ∧ H T = none ∧ H' = upd H T (.tup [.int (i : Nat), x]) ∧ ∀ xs, SqT K H a xs → xs[i]? = some x, fun i H => ∃ xs : List V, SqT K H a xs ∧ xs.length = i⟩
theorem turn_enumT {P : Program} {w : World} {K : PySem.W.Frag} {elts : List Expr} {kk : Nat} {tpos : Pos} (a e it : Addr) :
    Turn P w K (.Tuple elts kk tpos) (Itet K a) [e, it] e (fun i h => (∃ old, IsEnum h e it ((i : Nat) : Int) old) ∧ h.IsTupleIter it a i ∧ e ≠ it) where
  mem := by simp
  obj := fun i h st b hb => by
    obtain ⟨⟨old, he⟩, ⟨o, ho, hc, hd⟩, _⟩ := st
    have e' : b = e ∨ b = it := by simpa using hb
    rcases e' with z | z
    · rw [z]; exact ⟨_, he, fun v q => nomatch q⟩
    · rw [z]; exact ⟨o, ho, fun v q => by rw [hd] at q; cases q⟩
  keep := fun i h h' st k => let ⟨⟨old, he⟩, hi, hne⟩ := st; ⟨⟨old, k e (by simp) _ he⟩, hi.at fun o q => k it (by simp) o q, hne⟩
  item := by
    intro X hP hw hK hc i pins s σ H E I hf st hg
    subst hP hw hK
    obtain ⟨⟨old, he⟩, hit, hne⟩ := st
    obtain ⟨xs, x, hq, hx⟩ := hg
    obtain ⟨its, rv, p, hz⟩ := I.tuple hq
    obtain ⟨u, hu, ru⟩ := rv.get hx
    have hel : e < s.heap.objs.size := Heap.lt_size he
    have hil : it < s.heap.objs.size := by obtain ⟨_, q, _⟩ := hit; exact Heap.lt_size q
    have hT : s.heap.IsTuple a its.toArray := p
    have hei : e ≠ a := fun z => by
      obtain ⟨o, ho, c, _⟩ := hT
      have he' : s.heap.get? e = some _ := he
      rw [z, ho] at he'
      cases he'
      injection c with c
      exact absurd c (by decide)
    have hai : a ≠ it := fun z => by
      obtain ⟨o, ho, c, _⟩ := hT
      obtain ⟨o', ho', c', _⟩ := hit
      rw [z, ho'] at ho
      cases ho
      rw [c'] at c
      injection c with c
      exact absurd c (by decide)
    have D := Draws.tuple (prog := X.prog) (w := X.w) (A := X.A.in1) (I.ok.hd hc) it a hai its.toArray
    have lt : i < its.toArray.size := by
      rcases Nat.lt_or_ge i its.toArray.size with z | z
      · exact z
      · have : its[i]? = none := List.getElem?_eq_none (by simpa using z)
        rw [this] at hu
        cases hu
    refine wpAny_pyNext_enum_itemD D he ⟨hit, hT⟩ lt hne (by simp [hne, hei]) fun v h' tk hv ho hst hT' hsz hk => ?_
    have ev : v = u := by
      have z : its.toArray[i]? = some v := hv
      rw [List.getElem?_toArray] at z
      exact Option.some.inj (z.symm.trans hu)
    subst ev
    refine ⟨_, rfl, wpAny_letOwnedTupleGo_enum (s := { s with heap := h', toks := tk + 1 }) ho fun h'' he' sb => ?_⟩
    have hT2 : h''.get? s.heap.objs.size = some { cls := .type "tuple", data := .seq #[.int i tk, v] } := (sb.2 _ (Nat.ne_of_gt hel)).trans hT'
    have new : ObjOk X.prog X.w (upd H s.heap.objs.size (.tup [.int (i : Nat), x])) h'' s.heap.objs.size (.tup [.int (i : Nat), x]) :=
      ⟨by show 2 ≤ sizeLine; decide, [.int i tk, v], .cons ⟨_, rfl⟩ (.cons ru .nil), ⟨_, hT2, rfl, _, rfl⟩⟩
    have I1 : Inv X pins σ (upd H s.heap.objs.size (.tup [.int (i : Nat), x])) { s with heap := h'', toks := tk + 1 } :=
      I.turnedNew (ch := [e, it]) (fun b ob hb q => (sb.2 b (fun z => hb (by simp [z]))).trans (hk b ob (fun z => hb (by simp [z])) (fun z => hb (by simp [z])) q)) hf (Nat.le_refl _) new
    refine ⟨.ref s.heap.objs.size, _, I1, rfl, ⟨_, x, rfl, I.hok.fresh (Nat.le_refl _), rfl, fun ys hy => by rw [I.tuple_inj hy hq]; exact hx⟩, ⟨⟨v, ?_⟩, hst.1.at fun o q => (sb.2 it (Ne.symm hne)).trans q, hne⟩, fun b hb => ?_⟩
    · have e1 : ((i + 1 : Nat) : Int) = (i : Int) + 1 := by omega
      rw [e1]; exact he'
    · have hb' : b < s.heap.objs.size := by
        have e' : b = e ∨ b = it := by simpa using hb
        rcases e' with z | z
        · rw [z]; exact hel
        · rw [z]; exact hil
      rw [upd_ne (Nat.ne_of_lt hb')]
      exact (hf b hb).1
  done := by
    intro X hP hw hK hc i pins s σ H E I hf st hg
    subst hP hw hK
    obtain ⟨⟨old, he⟩, hit, hne⟩ := st
    obtain ⟨xs, hq, hx⟩ := hg
    obtain ⟨its, rv, p, hz⟩ := I.tuple hq
    obtain ⟨f0, f1, f2, f3, f4, f5⟩ := hf it (by simp)
    have hl := rv.length
    have hT : s.heap.IsTuple a its.toArray := p
    have hai : a ≠ it := fun z => by
      obtain ⟨o, ho, c, _⟩ := hT
      obtain ⟨o', ho', c', _⟩ := hit
      rw [z, ho'] at ho
      cases ho
      rw [c'] at c
      injection c with c
      exact absurd c (by decide)
    have D := Draws.tuple (prog := X.prog) (w := X.w) (A := X.A.in1) (I.ok.hd hc) it a hai its.toArray
    have en : its.toArray.size = i := by
      rw [List.size_toArray]
      omega
    refine wpAny_pyNext_enum_endD D he ?_ fun h' eb => ⟨rfl, I.turned (t' := s.toks) (fun b o hb q => eb b o hb q) f0 f1 f3 f4 f5⟩
    rw [en]
    exact ⟨hit, hT⟩
  self := fun A i s Q E st h => let ⟨⟨_, he⟩, _⟩ := st; wpAny_pyIter_enum he h
/-- a list or a tuple stands at a -/
def Sq (K : PySem.W.Frag) (H : Hp) (a : Addr) (xs : List V) : Prop := SqT K H a xs ∨ SqL K H a xs
/-- it stands there still -/
def SqKeep (K : PySem.W.Frag) (a : Addr) (xs : List V) (H1 H : Hp) : Prop := (SqT K H1 a xs → SqT K H a xs) ∧ (SqL K H1 a xs → SqL K H a xs)
theorem Rd.keep {H H' : Hp} {a : Addr} {u : HO} (r : Rd H a u) (s : ∀ o, H a = some o → H' a = some o) : Rd H' a u := by
  rcases r with e | ⟨o, e⟩
  · exact .inl (s _ e)
  · exact .inr ⟨o, s _ e⟩
theorem SqKeep.of_eq {K : PySem.W.Frag} {a : Addr} {xs : List V} {H1 H : Hp} (s : ∀ o, H1 a = some o → H a = some o) : SqKeep K a xs H1 H := by
  refine ⟨fun z => ?_, fun z => ?_⟩
  · rcases z with z | z
    · exact .inl (Rd.keep z s)
    · exact .inr z
  · rcases z with z | z
    · exact .inl (Rd.keep z s)
    · exact .inr z
theorem SqKeep.of_same {K : PySem.W.Frag} {a : Addr} {xs : List V} {H1 H : Hp} (s : Same H1 H) : SqKeep K a xs H1 H := .of_eq fun o e => s a o e
theorem Sq.keep {K : PySem.W.Frag} {a : Addr} {xs : List V} {H1 H : Hp} (q : Sq K H1 a xs) (s : SqKeep K a xs H1 H) : Sq K H a xs := q.imp s.1 s.2
/-- over a list or a tuple -/
def iSq (K : PySem.W.Frag) (te : TE) : TI := fun σ H R => te σ H fun x H1 => ∃ a xs, x = .ref a ∧ Sq K H1 a xs ∧ ∀ J, Walk J xs.length (SqKeep K a xs H1) (YAt xs) → R J H1
/-- over enumerate of a list or a tuple -/
def iEnumSq (K : PySem.W.Frag) (ta : TA) : TI := fun σ H R => ta σ H fun vs H1 => ∃ a xs, vs = [.ref a] ∧ Sq K H1 a xs ∧ ∀ J, Walk J xs.length (SqKeep K a xs H1) (YPair (fun i => some (.int (i : Nat))) (fun i => xs[i]?)) → R J H1
section
variable {X : Cx} {tg e : Expr} {te : TE} {ta : TA}
theorem pi_sq (he : PE X e te) : PI X tg e (iSq X.K te) := by
  refine ⟨fun pins s σ H R I h => ?_⟩
  refine thn (he.run pins s σ H _ I h) fun v s1 ⟨x, H1, I1, r1, a, xs, ex, hq, q⟩ => ?_
  subst ex
  cases r1
  rcases hq with hq | hq
  · obtain ⟨its, rv, p, hz⟩ := I1.tuple hq
    refine wpAny_pyIter_tuple (show s1.heap.IsTuple a its.toArray from p) ?_
    refine ⟨s1.heap.objs.size, [s1.heap.objs.size], _, _, H1, rfl, I1.kept (t' := s1.toks) fun b o e => Heap.get?_push_of_some _ e, turn_tuple a _, ⟨_, Heap.get?_push_size _ rfl, rfl, rfl⟩, fun b hb => ?_, q _ (walk_tup.mono (fun H k => k.1 hq) fun _ _ _ _ _ _ y => y)⟩
    have e : b = s1.heap.objs.size := by simpa using hb
    subst e
    exact I1.fpOk (Nat.le_refl _) (I1.hok.fresh (Nat.le_refl _))
  · obtain ⟨its, rv, p, hz⟩ := I1.list hq
    refine wpAny_pyIter_list p.isList ?_
    refine ⟨s1.heap.objs.size, [s1.heap.objs.size], _, _, H1, rfl, I1.kept (t' := s1.toks) fun b o e => Heap.get?_push_of_some _ e, turn_list a _, ⟨_, Heap.get?_push_size _ rfl, rfl, rfl⟩, fun b hb => ?_, q _ (Walk.mono L2.walk_list (fun H k => k.2 hq) fun _ _ _ _ _ _ y => y)⟩
    have e : b = s1.heap.objs.size := by simpa using hb
    subst e
    exact I1.fpOk (Nat.le_refl _) (I1.hok.fresh (Nat.le_refl _))
theorem walk_enumT {K : PySem.W.Frag} {a : Addr} {xs : List V} : Walk (Itet K a) xs.length (fun H => SqT K H a xs) (YPair (fun i => some (.int (i : Nat))) (fun i => xs[i]?)) := by
  refine ⟨fun i _ hi q => ⟨xs, xs[i], q, by simp [hi]⟩, fun _ q => ⟨xs, q, rfl⟩, fun i H v H' _ q y => ?_⟩
  obtain ⟨T, x, h1, h2, h3, h4⟩ := y
  exact ⟨T, .int (i : Nat), x, h1, h2, h3, rfl, h4 xs q⟩
theorem pi_enumSq {p pos tpos : Pos} {elts : List Expr} {kk : Nat} (hg : Gl X "enumerate") (hm : X.mg "enumerate" = none) (ha : PA X [e] ta) (hs : starEach [e] X.env = [(false, eval e X.env)] := by rfl) :
    PI X (.Tuple elts kk tpos) (.Call (.Name "enumerate" p) [e] [] pos) (iEnumSq X.K ta) := by
  refine ⟨fun pins s σ H R I h => ?_⟩
  refine Call_ (ld_blt I hg hm boot_enumerate (PyProof.Rows.callWith_type1 (thn (ha.run pos pins s σ H _ I h) fun us s1 ⟨vs, H1, I1, r1, q1⟩ => ?_) hs rfl))
  obtain ⟨a, xs, ex, hq, q⟩ := q1
  subst ex
  cases r1 with
  | cons r rr =>
    cases rr
    cases r
    have fin : ∀ b, b ∈ [s1.heap.objs.size + 1, s1.heap.objs.size] → FpOk X pins H1 b := fun b hb => by
      have e' : b = s1.heap.objs.size + 1 ∨ b = s1.heap.objs.size := by simpa using hb
      have hle : s1.heap.objs.size ≤ b := by
        rcases e' with z | z
        · rw [z]; exact Nat.le_add_right _ _
        · rw [z]; exact Nat.le_refl _
      exact I1.fpOk hle (I1.hok.fresh hle)
    rcases hq with hq | hq
    · obtain ⟨its, rv, p', hz⟩ := I1.tuple hq
      refine call_enumerate_tuple (show s1.heap.IsTuple a its.toArray from p') fun h' he hit hsz hk => wpAny_pyIter_enum he ?_
      have I2 : Inv X pins σ H1 { s1 with heap := h' } := I1.kept (t' := s1.toks) hk
      exact ⟨s1.heap.objs.size + 1, [s1.heap.objs.size + 1, s1.heap.objs.size], _, _, H1, rfl, I2, turn_enumT a (s1.heap.objs.size + 1) s1.heap.objs.size, ⟨⟨.none, he⟩, hit, Nat.succ_ne_self _⟩, fin, q _ (walk_enumT.mono (fun H k => k.1 hq) fun _ _ _ _ _ _ y => y)⟩
    · obtain ⟨its, rv, p', hz⟩ := I1.list hq
      refine call_enumerate_list p'.isList fun h' he hit hsz hk => wpAny_pyIter_enum he ?_
      have I2 : Inv X pins σ H1 { s1 with heap := h' } := I1.kept (t' := s1.toks) hk
      exact ⟨s1.heap.objs.size + 1, [s1.heap.objs.size + 1, s1.heap.objs.size], _, _, H1, rfl, I2, turn_enum a (s1.heap.objs.size + 1) s1.heap.objs.size, ⟨⟨.none, he⟩, hit, Nat.succ_ne_self _⟩, fin, q _ (walk_enum.mono (fun H k => k.2 hq) fun _ _ _ _ _ _ y => y)⟩
end
end L2.RV
set_option Elab.async false
set_option linter.all false
set_option maxRecDepth 100000
set_option maxHeartbeats 4000000
/-! Places that are a shape's. -/
namespace L2.K20
open PySem PySem.Spec PyProof.Rows L2.RV
/-- each of the tuples at bs is a place of the shape -/
def AllPl (H : Hp) (ks : List Str) (d : Nat) (bs : List Addr) : Prop := ∀ b ∈ bs, ∃ p, p ∈ placesOf ks d ∧ PlAt H b p
/-- check_places(shape, places), all of them the shape's -/
def spPlaces (K : PySem.W.Frag) : Sp := fun vs H Q _ => ∃ a t ks d bs, vs = [.ref a, .ref t] ∧ ShapeAt K H a ks d ∧ Sq K H t (bs.map V.ref) ∧ AllPl H ks d bs ∧ Q .non H
section
variable {P : Program} {w : World} {K : PySem.W.Frag} {mg : Str → Option Value} {base : Heap} {fd : FuncData}
theorem ok_check_places (T : Top w K mg) (S : MethS CX0 P w K mg base (He.ga K "Shape") "__contains__" 3 ["self", "x"] (spShapeIn K)) (R_BadPlace : RzX P w K mg base "BadPlace" (ca K 9) ["value"]) (F : Fn K "check_places" s_check_places fd) : FnOk P w K mg base (L2.CX P w) 4 (He.ga K "check_places") fd ["shape", "places"] (spPlaces K) := by
  refine F.ok sc_check_places (fun vs H Q E h => ?_) (fun cdv A outer s H vs Q E hr h => ?_)
  · obtain ⟨a, t, ks, d, bs, rfl, _⟩ := h
    rfl
  · obtain ⟨a, t, ks, d, bs, rfl, s1, sq, all, k⟩ := h
    refine ⟨_, (pss_one (ps_for (passes_of rfl) rfl (pi_sq (pv 1)) (pg_name (i := 2) sc_check_places.nd rfl (by first | exact Or.inl rfl | exact Or.inr rfl)) (pss_one (ps_if (pt_cmpR (op_notInO S (hr.mono (by decide)) pass_CX0) (pv 2) (pv 0) rfl) (pss_one (ps_rz R_BadPlace rfl (hr.mono (by decide)) (takes_of rfl rfl rfl rfl) rfl (pa_cons (pv 2) pa_nil))) pss_nil)))), ?_⟩
    refine ⟨_, rfl, t, _, rfl, sq, fun J wk => ?_⟩
    refine for_it wk (fun n σ' H' => (∃ c, σ' = [some (.ref a), some (.ref t), c]) ∧ H' = H) ⟨⟨_, rfl⟩, rfl⟩ (fun n σ' H' _ q => by rw [q.2]; exact ⟨id, id⟩) (fun n z σ' H' H'' hn q yy => ?_) (fun σ' H' q => ?_)
    · obtain ⟨⟨c, rfl⟩, rfl⟩ := q
      obtain ⟨rfl, hz⟩ := yy
      obtain ⟨b, hb, rfl⟩ := List.mem_map.mp (List.mem_of_getElem? hz)
      obtain ⟨p, hp, pb⟩ := all b hb
      obtain ⟨dy, gs, e5⟩ := s1.ins
      refine ⟨_, rfl, _, rfl, a, dy, gs, rfl, e5, a, b, ks, d, p, rfl, s1, pb, _, rfl, _, rfl, ?_⟩
      rw [decide_eq_true hp]
      exact ⟨⟨_, rfl⟩, rfl⟩
    · obtain ⟨_, rfl⟩ := q
      exact k
end
end L2.K20
set_option Elab.async false
set_option linter.all false
set_option maxRecDepth 100000
set_option maxHeartbeats 4000000
/-! Dicts whose keys are tuples: bool(d). -/
namespace L2.RV
open PySem PySem.Spec PyProof.Rows
section
variable {X : Cx} {A : Around} {E : Value → Shared → Prop} {pins : List (Addr × Obj)} {σ : L2.St} {H : Hp} {s : Shared} {a : Addr} {kvs : List (List Key × V)}
theorem dt_truth {Q : Bool → Shared → Prop} (I : Inv X pins σ H s) (e : Rd H a (.dT kvs)) (h : ∀ s', Inv X pins σ H s' → Q (!kvs.isEmpty) s') : wpAny (model X.prog X.w) A (truthy (.ref a)) Q E s := by
  obtain ⟨z, hd, ys, rel, dd⟩ := dt_rd I.hok e
  have hl : kvs.length = ys.length := Paired.length rel
  have fit : (ys.length : Int) < 2 ^ 63 := by rw [← hl]; rw [sizeLine_eq] at z; omega
  have truth : ((ys.length : Int) != 0) = !kvs.isEmpty := by
    rw [← hl]
    cases kvs with
    | nil => rfl
    | cons k ks =>
      have p : ((k :: ks).length : Int) ≠ 0 := by simp only [List.length_cons]; omega
      exact bne_iff_ne.mpr p
  have asks : wpAny (model X.prog X.w) A (runValue (.builtin "len" ⟨[.ref a], []⟩)) (fun r s' => r = .int ys.length (s.toks + 1) ∧ Q (!kvs.isEmpty) s') E s := by
    refine wpAny_runValue (codeAny_builtin entry_len ?_)
    rw [Around.under_plainId plain_len _]
    refine wpAny_mono (wpAny_len_body_dictH (Q := fun r s' => r = .int ys.length (s.toks + 1) ∧ Q (!kvs.isEmpty) s') hd dd fit ⟨rfl, h _ (I.tok _)⟩) ?_ fun _ _ y => y
    rintro fin s' ⟨r, rfl, q⟩
    exact q
  unfold truthy
  refine wpAny_bind (wpAny_callSpecial?_none (name := Str.ofString "__bool__") dd.typeIs noBool_dict ?_)
  refine wpAny_bind (wpAny_specialOf (name := Str.ofString "__len__") dd.typeIs F.slot_dict_len.lookup ?_)
  refine wpAny_bind (wpAny_mono asks (fun r s' y => ?_) fun _ _ y => y)
  obtain ⟨rfl, q⟩ := y
  exact wpAny_pure (truth ▸ q)
/-- bool(d), d by tuples -/
theorem call_boolT : CallR X (.type "bool") (fun xs H Q => ∃ (a : Addr) (kvs : List (List Key × V)), xs = [.ref a] ∧ Rd H a (.dT kvs) ∧ Q (.bl (!kvs.isEmpty)) H) := by
  intro pins s σ H xs us Q I r h
  obtain ⟨a, kvs, rfl, e, q⟩ := h
  obtain ⟨u, rfl, ru⟩ := vals1 r
  obtain rfl : u = Value.ref a := ru
  exact bool_any (dt_truth I e fun s' I' => ⟨.bl (!kvs.isEmpty), H, I', rfl, q⟩)
end
end L2.RV
set_option Elab.async false
set_option linter.all false
set_option maxRecDepth 100000
set_option maxHeartbeats 4000000
/-! The truth of a question. -/
namespace L2.K20
open PySem PySem.Spec PyProof.Rows L2.RV
/-- bool(o) -/
def spTruth (K : PySem.W.Frag) (x f : Str) : Sp := fun vs H Q _ => ∃ a s ws, vs = [.ref a] ∧ Held K H x f a s ws ∧ Q (.bl (!ws.isEmpty)) H
section
variable {P : Program} {w : World} {K : PySem.W.Frag} {mg : Str → Option Value} {base : Heap} {fd : FuncData}
theorem ok_Question_bool (T : Top w K mg) {f : Addr} (F : FunD K "__bool__" "Question.__bool__" (defArgs s_Question_bool) (defBody s_Question_bool) (defScope s_Question_bool) [] [] f fd) : FnOk P w K mg base CX0 1 f fd ["self"] (spTruth K "Question" "weights") := by
  refine F.ok sc_Question_bool (fun vs H Q E h => ?_) (fun cdv A outer s H vs Q E hr h => ?_)
  · obtain ⟨a, s, ws, rfl, _⟩ := h
    rfl
  · obtain ⟨a, s, ws, rfl, o, k⟩ := h
    refine ⟨_, PSs.nox (pss_one (ps_ret (pe_callTy call_boolT rfl T.n_bool (by decide +kernel) (pa_cons (pe_fld (pv 0) rfl) pa_nil)))), ?_⟩
    obtain ⟨dx, fs, t, e1, e2, e3, e4⟩ := o
    refine ⟨_, rfl, a, _, dx, _, _, rfl, e1, T.k_Question, T.a_Question_weights, e3, t, _, rfl, e4, ?_⟩
    have e : (plD ws).isEmpty = ws.isEmpty := by
      cases ws <;> rfl
    rw [e]
    exact k
end
end L2.K20
set_option Elab.async false
set_option linter.all false
set_option maxRecDepth 100000
set_option maxHeartbeats 4000000
/-! Dict comprehensions whose keys are tuples. -/
namespace L2.RV
open PySem PySem.Spec PyProof.Rows
section
variable {X : Cx}
/-- what a comprehension does with a pair, by DPut -/
theorem d_compSet {pins : List (Addr × Obj)} {σ : L2.St} {H H' : Hp} {s : Shared} {E : Value → Shared → Prop} {D : Addr} {y z : V} {u r : Value} {Q : Unit → Shared → Prop} (hu : X.A.units < cLine) (I : Inv X pins σ H s)
    (g : DPut H D y z H') (ry : RelV y u) (rz : RelV z r) (h : ∀ s', Inv X pins σ H' s' → Q () s') : wpAny (model X.prog X.w) X.A (dictSet D u r) Q E s := by
  rcases g with ⟨kvs, k, e, rfl, l, rfl⟩ | ⟨kvs, k, b, e, rfl, eb, l, rfl⟩
  · exact d_dictSet I e l ry rz h
  · cases (show u = Value.ref b from ry)
    obtain ⟨sz, nm, xs, rel, dd⟩ := dt_of I.hok e
    have lx : xs.length ≤ sizeLine := Nat.le_trans (Nat.le_of_eq (Paired.length rel).symm) sz
    have lp : (putK kvs k z).length ≤ sizeLine := Nat.le_trans (length_putK kvs k z) l
    refine wpAny_dictSet_heap (hsz := lx) (knd := tupleKind (mixKind X.prog X.w)) hu (key_of I.hok eb) dd fun h2 d2 sb => h _ ?_
    obtain ⟨o2, es, ep, g1, g2, g3, g4, _, g5⟩ := d2
    refine d_write I (by rw [e]; exact True.intro) sb ⟨o2, g1⟩ ⟨lp, nm, _, KT.keeps (rel.put k eb rz) (fun c ys ec => ?_), o2, es, ep, g1, g2, g3, g4, g5⟩
    exact (upd_ne (ne_of ec e (fun z => nomatch z))).trans ec
/-- {k: v for target in iter if ..}, keys by tuples: D the new dict -/
def tDcT (wi : TI) (g : TG) (tt : TT) (tk tv : TE) (vs : List Nat) : TE := fun σ H Q => wi σ H fun J H1 => ∀ D, H1 D = none → ∃ W : Nat → Nat → Hp → Prop, (∃ m, W 0 m (upd H1 D (.dT []))) ∧ ∀ i m H, W i m H →
  (J.stop i H ∧ Q (.ref D) H) ∨ (J.go i H ∧ ∃ N : Hp → Prop, (∀ H', N H' → ∃ m', m' < m ∧ W (i + 1) m' H') ∧ ∀ x H', J.yld i H x H' → g x (wipe σ vs) H' fun σ2 H2 => wipe σ2 vs = wipe σ vs ∧ tt σ2 H2 fun b H3 =>
    if b = true then tk σ2 H3 fun y H4 => tv σ2 H4 fun z H5 => ∃ H6, DPut H5 D y z H6 ∧ N H6 else N H3)
theorem dcT_core {pins : List (Addr × Obj)} {s : Shared} {σ : L2.St} {H : Hp} {Q : VK} {kx vx tg iter : Expr} {ifs : List Expr} {scope : Scope} {own : List (Str × Nat)} {pos pos' : Pos} {wi : TI} {g : TG} {tt : TT} {tk tv : TE} {use : Option (Value → Sem Unit)} {Qf : Value → Shared → Prop}
    (hu : X.A.units < cLine) (calm : X.calm = true) (nd : X.N.Nodup) (I : Inv X pins σ H s) (it0 : PI X tg iter wi) (ok : BlkOk X.N X.env.scope scope own)
    (pg0 : ∀ (s : Shared) (H : Hp) (C : Addr) (cl : List (Str × Addr)) (fp : List Addr), PG (X.blk s H scope (compEnvC scope cl C X.env) fp) tg g)
    (pt0 : ∀ (s : Shared) (H : Hp) (C : Addr) (cl : List (Str × Addr)) (fp : List Addr), PTs (X.blk s H scope (compEnvC scope cl C X.env) fp) ifs tt)
    (pk0 : ∀ (s : Shared) (H : Hp) (C : Addr) (cl : List (Str × Addr)) (fp : List Addr), PE (X.blk s H scope (compEnvC scope cl C X.env) fp) kx tk)
    (pv0 : ∀ (s : Shared) (H : Hp) (C : Addr) (cl : List (Str × Addr)) (fp : List Addr), PE (X.blk s H scope (compEnvC scope cl C X.env) fp) vx tv)
    (fs : ∀ x, foldedSetIterable iter X.env x = pure x)
    (h : tDcT wi g tt tk tv (own.map (·.2)) σ H Q)
    (back : ∀ D C s' m H', Inv X pins σ H' s' → Q (.ref D) H' → s'.heap.Ns C m → FpOk X pins H' C → compPost (model X.prog X.w) X.A X.xe use Qf (.ref D) C (.ok .next) s') :
    wpAny (model X.prog X.w) X.A (comprehension (.DictComp kx vx [⟨tg, iter, ifs, 0⟩] scope pos) scope X.env pos' newDict false (eval iter X.env) use) Qf X.xe s := by
  have free : ∀ y ∈ scope.names, y.2 = .free → ∃ c, X.env.cells.lookup y.1 = some c := fun y hy e => (ok.free y hy e).elim (fun k => I.ok.has _ (.inl k)) (fun k => I.ok.has _ (.inr k))
  refine wpAny_comprehension_free (use := use) rfl fs (closure_ok free) ok.kind (fun y hy e => by rw [ok.uniq y hy, e]) ?_
  refine thn (it0.run pins s σ H _ I h) fun xv sA hx => ?_
  refine thn hx fun itv sB hB => ?_
  obtain ⟨it, fp, tn, J, H2, rfl, I2, T, stB, fB, q⟩ := hB
  refine (wpAny_newObj_type (newEnv_comp ?_))
  have Dn : H2 sB.heap.objs.size = none := I2.hok.fresh (Nat.le_refl _)
  obtain ⟨W, ⟨m0, w0⟩, turn⟩ := q _ Dn
  generalize eD : sB.heap.objs.size = D at Dn w0 turn
  generalize eC : ({ sB with heap := sB.heap.push { cls := .type "dict", data := .dict #[] } } : Shared) = sC
  have hC : sC.heap = sB.heap.push { cls := .type "dict", data := .dict #[] } := by rw [← eC]
  have kC : ∀ b o, sB.heap.get? b = some o → sC.heap.get? b = some o := fun b o e => by rw [hC]; exact Heap.get?_push_of_some _ e
  have I3 : Inv X pins σ (upd H2 D (.dT [])) sC := by
    have z := I2.laid (t' := sB.toks) (h' := sB.heap.push { cls := .type "dict", data := .dict #[] }) (a := D) (o := .dT []) (fun b o e => Heap.get?_push_of_some _ e) (Nat.le_of_eq eD) (by rw [← eD]; exact dt_empty sB.heap I2.big)
    rw [← eC]
    exact z
  have low : ∀ b ∈ fp, b < sB.heap.objs.size := fun b hb => let ⟨o, e, _⟩ := T.obj _ _ stB b hb; Heap.lt_size e
  have fC : ∀ b ∈ fp, FpOk X pins (upd H2 D (.dT [])) b ∧ b < sC.heap.objs.size := fun b hb => by
    have lt := low b hb
    have ne : b ≠ D := by rw [← eD]; exact Nat.ne_of_lt lt
    refine ⟨⟨(upd_ne ne).trans (fB b hb).1, (fB b hb).2⟩, ?_⟩
    rw [hC, Heap.size_push]
    exact Nat.lt_succ_of_lt lt
  have stC : tn 0 sC.heap := T.keep _ _ _ stB fun b _ o e => kC b o e
  have I4 := block_start I3 ok nd fC
  generalize ecl : cellsFrom (sC.heap.objs.size + 1) scope.names (cloFrom X.env.cells scope.names []) = cl at I4
  have pg := pg0 sC (upd H2 D (.dT [])) sC.heap.objs.size cl fp
  have pt := pt0 sC (upd H2 D (.dT [])) sC.heap.objs.size cl fp
  have pk := pk0 sC (upd H2 D (.dT [])) sC.heap.objs.size cl fp
  have pv := pv0 sC (upd H2 D (.dT [])) sC.heap.objs.size cl fp
  subst ecl
  show codeAny _ _ (.compStart (.DictComp kx vx [⟨tg, iter, ifs, 0⟩] scope pos) 0 (.ref it) (.ref D) (compEnvC scope (cellsFrom (sC.heap.objs.size + 1) scope.names (cloFrom X.env.cells scope.names [])) sC.heap.objs.size X.env)) (compPost (model X.prog X.w) X.A X.xe use Qf (.ref D) sC.heap.objs.size) { sC with heap := pushCells (sC.heap.push { cls := .type "dict", data := .dict #[] }) scope.names }
  have nfp : ∀ b ∈ fp, (upd H2 D (.dT [])) b = none := fun b hb => (fC b hb).1.1
  generalize ece : compEnvC scope (cellsFrom (sC.heap.objs.size + 1) scope.names (cloFrom X.env.cells scope.names [])) sC.heap.objs.size X.env = ce at I4 pg pt pk pv ⊢
  have cL : ce.locals = sC.heap.objs.size := by rw [← ece]; rfl
  generalize eH3 : upd H2 D (.dT []) = H3 at I3 I4 pg pt pk pv w0 nfp fC
  generalize eS4 : ({ sC with heap := pushCells (sC.heap.push { cls := .type "dict", data := .dict #[] }) scope.names } : Shared) = sD at I4 ⊢
  have stD : tn 0 sD.heap := T.keep _ _ _ stC fun b _ o e => by rw [← eS4]; exact pushCells_keeps _ _ _ _ (Heap.get?_push_of_some _ e)
  have stat : ∀ {σ' : L2.St} {H' : Hp} {s' : Shared}, Inv (X.blk sC H3 scope ce fp) [] σ' H' s' → (∀ b ∈ fp, H' b = none) → ∀ b ∈ fp, FpOk (X.blk sC H3 scope ce fp) [] H' b := by
    intro σ' H' s' I' hn b hb
    exact ⟨hn b hb, (I'.ok.exf b hb).1, I'.ok.exfs b hb, .inl hb, fun x c e => (I'.ok.exf b hb).2 x c e, fun p hp => absurd (show p ∈ ([] : List (Addr × Obj)) ++ [] from hp) (by simp)⟩
  have loop : codeAny (model X.prog X.w) X.A (.compLoop (.DictComp kx vx [⟨tg, iter, ifs, 0⟩] scope pos) 0 (.ref it) (.ref D) ce) (compPost (model X.prog X.w) X.A X.xe use Qf (.ref D) sC.heap.objs.size) sD := by
    refine compLoop_anyD (fun n s' => ∃ i H', Inv (X.blk sC H3 scope ce fp) [] (wipe σ (own.map (·.2))) H' s' ∧ tn i s'.heap ∧ (∀ b ∈ fp, H' b = none) ∧ W i n H') ?_ m0 ⟨0, H3, I4, stD, nfp, w0⟩
    intro n sE hE
    obtain ⟨i, H5, I5, stE, nE, wE⟩ := hE
    rcases turn i n H5 wE with ⟨stop, qq⟩ | ⟨go, N, hN, step⟩
    · refine thnF (T.done (X.blk sC H3 scope ce fp) rfl rfl rfl calm i [] sE _ H5 (fun _ _ => False) I5 (stat I5 nE) stE stop) fun r sF ⟨hr, I6⟩ => ?_
      subst hr
      have I7 : Inv X pins σ H5 sF := I3.call' (ch := fp) I6.os I6.base I6.hok I6.bare fun b hb => let z := (fC b hb).1.2; ⟨z.2.2.1, z.1, z.2.2.2.1, z.2.2.2.2⟩
      have nC : H5 sC.heap.objs.size = none := by rw [← cL]; exact I6.free
      obtain ⟨m, hn, _⟩ := I6.loc
      have hn' : sF.heap.Ns sC.heap.objs.size m := by rw [← cL]; exact hn
      exact back D sC.heap.objs.size sF m H5 I7 qq hn' (I3.fpOk (Nat.le_refl _) nC)
    · refine thnF (T.item (X.blk sC H3 scope ce fp) rfl rfl rfl calm i [] sE _ H5 (fun _ _ => False) I5 (stat I5 nE) stE go) fun r sF ⟨u, hr, hF⟩ => ?_
      subst hr
      refine thnF hF fun _ sG ⟨x, H7, I7, r7, y7, stG, nG⟩ => ?_
      refine thnF (pg.run _ sG _ H7 x u _ (I7.pinned (stat I7 nG) (T.obj _ _ stG)) r7 (step x H7 y7)) fun _ s8 ⟨σ8, H8, I8, hw8, q8⟩ => ?_
      refine thnF (pt.run _ s8 σ8 H8 _ I8 q8) fun b s9 ⟨H9, I9, q9⟩ => ?_
      have fin : ∀ {s' : Shared} {H' : Hp}, Inv (X.blk sC H3 scope ce fp) ([] ++ pinsAt fp sG.heap) σ8 H' s' → N H' → ∃ m, m < n ∧ ∃ i H', Inv (X.blk sC H3 scope ce fp) [] (wipe σ (own.map (·.2))) H' s' ∧ tn i s'.heap ∧ (∀ b ∈ fp, H' b = none) ∧ W i m H' := by
        intro s' H' I' nx
        obtain ⟨m', lt, w'⟩ := hN H' nx
        have pin : ∀ b ∈ fp, ∀ o, sG.heap.get? b = some o → s'.heap.get? b = some o ∧ H' b = none := fun b hb o e => by
          have z := I'.pin (b, o) (List.mem_append_right _ (List.mem_append_right _ (mem_pinsAt hb e)))
          exact ⟨z.1, z.2.1⟩
        refine ⟨m', lt, i + 1, H', (I'.unpinned (pins := [])).weak (by rw [← hw8, wipe_length]) (fun j v e => (wipe_some (hw8 ▸ e)).1), T.keep _ _ _ stG fun b hb o e => (pin b hb o e).1, fun b hb => ?_, w'⟩
        obtain ⟨o, e, _⟩ := T.obj _ _ stG b hb
        exact (pin b hb o e).2
      cases b with
      | false =>
        simp only [Bool.false_eq_true, if_false] at q9 ⊢
        exact fin I9 q9
      | true =>
        simp only [if_true] at q9 ⊢
        refine thnF (pk.run _ s9 σ8 H9 _ I9 q9) fun u1 s10 ⟨yk, H10, I10, r10, q10⟩ => ?_
        refine thnF (pv.run _ s10 σ8 H10 _ I10 q10) fun u2 s11 ⟨yv, H11, I11, r11, H12, put, nx⟩ => ?_
        exact d_compSet (X := X.blk sC H3 scope ce fp) hu I11 put r10 r11 fun s12 I12 => fin I12 nx
  exact codeAny_compStart_dict loop (T.self X.A 0 _ _ _ stD loop)
theorem pe_dcT {kx vx tg iter : Expr} {ifs : List Expr} {scope : Scope} {own : List (Str × Nat)} {pos : Pos} {wi : TI} {g : TG} {tt : TT} {tk tv : TE} (hu : X.A.units < cLine) (calm : X.calm = true) (nd : X.N.Nodup) (it0 : PI X tg iter wi) (ok : BlkOk X.N X.env.scope scope own)
    (pg0 : ∀ (s : Shared) (H : Hp) (C : Addr) (cl : List (Str × Addr)) (fp : List Addr), PG (X.blk s H scope (compEnvC scope cl C X.env) fp) tg g)
    (pt0 : ∀ (s : Shared) (H : Hp) (C : Addr) (cl : List (Str × Addr)) (fp : List Addr), PTs (X.blk s H scope (compEnvC scope cl C X.env) fp) ifs tt)
    (pk0 : ∀ (s : Shared) (H : Hp) (C : Addr) (cl : List (Str × Addr)) (fp : List Addr), PE (X.blk s H scope (compEnvC scope cl C X.env) fp) kx tk)
    (pv0 : ∀ (s : Shared) (H : Hp) (C : Addr) (cl : List (Str × Addr)) (fp : List Addr), PE (X.blk s H scope (compEnvC scope cl C X.env) fp) vx tv) (fs : ∀ x, foldedSetIterable iter X.env x = pure x := by intro _; rfl) :
    PE X (.DictComp kx vx [⟨tg, iter, ifs, 0⟩] scope pos) (tDcT wi g tt tk tv (own.map (·.2))) := by
  refine ⟨fun pins s σ H Q I h => ?_⟩
  rw [arm_eval_DictComp]
  refine dcT_core hu calm nd I it0 ok pg0 pt0 pk0 pv0 fs h fun D C s' m H' I' q hn f => ⟨m, hn, fun h'' sb => ⟨.ref D, H', ?_, rfl, q⟩⟩
  exact I'.turned (t' := s'.toks) (fun b o hb e => (sb.2 b hb).trans e) f.1 f.2.1 f.2.2.2.1 f.2.2.2.2.1 f.2.2.2.2.2
end
section
variable {J : It} {n : Nat} {G : Hp → Prop} {Y : Nat → Hp → V → Hp → Prop}
/-- one over a walk: Pv by the turn and the heap (the new dict at D within) -/
theorem dcT_it (w : Walk J n G Y) {g : TG} {tt : TT} {tk tv : TE} {vs : List Nat} {σ : L2.St} {H1 : Hp} {D : Addr} {Qd : Hp → Prop} (Pv : Nat → Hp → Prop) (h0 : Pv 0 (upd H1 D (.dT []))) (hG : ∀ i H, i ≤ n → Pv i H → G H)
    (hs : ∀ i x H H', i < n → Pv i H → Y i H x H' → g x (wipe σ vs) H' fun σ2 H2 => wipe σ2 vs = wipe σ vs ∧ tt σ2 H2 fun b H3 =>
      if b = true then tk σ2 H3 fun y H4 => tv σ2 H4 fun z H5 => ∃ H6, DPut H5 D y z H6 ∧ Pv (i + 1) H6 else Pv (i + 1) H3) (hd : ∀ H, Pv n H → Qd H) :
    ∃ W : Nat → Nat → Hp → Prop, (∃ m, W 0 m (upd H1 D (.dT []))) ∧ ∀ i m H, W i m H →
      (J.stop i H ∧ Qd H) ∨ (J.go i H ∧ ∃ N : Hp → Prop, (∀ H', N H' → ∃ m', m' < m ∧ W (i + 1) m' H') ∧ ∀ x H', J.yld i H x H' → g x (wipe σ vs) H' fun σ2 H2 => wipe σ2 vs = wipe σ vs ∧ tt σ2 H2 fun b H3 =>
        if b = true then tk σ2 H3 fun y H4 => tv σ2 H4 fun z H5 => ∃ H6, DPut H5 D y z H6 ∧ N H6 else N H3) := by
  refine ⟨fun i m H => m + i = n ∧ Pv i H, ⟨n, by omega, h0⟩, fun i m H q => ?_⟩
  obtain ⟨em, p⟩ := q
  have gg := hG i H (by omega) p
  by_cases lt : i < n
  · refine .inr ⟨w.goes i H lt gg, Pv (i + 1), fun H' p' => ⟨m - 1, by omega, by omega, p'⟩, fun x H' y => hs i x H H' lt p (w.yields i H x H' lt gg y)⟩
  · obtain rfl : i = n := by omega
    exact .inl ⟨w.stops H gg, hd H p⟩
end
end L2.RV
set_option Elab.async false
set_option linter.all false
set_option maxRecDepth 100000
set_option maxHeartbeats 4000000
/-! == and != of dicts whose keys are tuples, their values ints. -/
namespace L2.RV
open PySem PySem.Spec PyProof.Rows
section
variable {prog : Program} {w : World} {A : Around} {E : Value → Shared → Prop} {s : Shared} {K : Type} [DecidableEq K] {knd : HeapKind prog w K}
/-- whether each pair of the first stands in the second, by the values' own == -/
inductive HitsT (A : Around) (s : Shared) (kb : List (K × Addr × Value)) : List (K × Addr × Value) → Bool → Prop
  | nil : HitsT A s kb [] true
  | miss {x : K × Addr × Value} {r : List (K × Addr × Value)} : atKey kb x.1 = none → HitsT A s kb (x :: r) false
  | hit {x : K × Addr × Value} {p : Addr × Value} {r : List (K × Addr × Value)} {e b : Bool} : atKey kb x.1 = some p → SeqAt.EqAt A s x.2.2 p.2 e → HitsT A s kb r b → HitsT A s kb (x :: r) (e && b)
theorem samePairsT {nm : String} {a b : Addr} {ka kb : List (K × Addr × Value)} {r : Bool} {Q : Bool → Shared → Prop} (hu : knd.room A) (ha : (a == sysModules) = false) (hb : (b == sysModules) = false)
    (da : s.heap.DictOfH knd a ka) (db : s.heap.DictOfH knd b kb) (hits : ka.length = kb.length → HitsT A s kb ka r) (h : Q (ka.length == kb.length && r) s) : wpAny (model prog w) A (Builtin.Dict.samePairs nm a b) Q E s := by
  obtain ⟨oa, ea, pa, ga, _, ua, ta, ia, _⟩ := da
  obtain ⟨ob, eb, pb, gb, _, ub, tb, ib, nb⟩ := db
  have sa := size_of_entries ta
  have sb := size_of_entries tb
  unfold Builtin.Dict.samePairs Builtin.Dict.showsAll
  rw [ha, hb]
  simp only [Bool.false_eq_true, if_false]
  refine wpAny_bind (wpAny_pure (wpAny_bind (wpAny_pure (wpAny_bind (wpAny_dictEntries ga ua ?_)))))
  refine wpAny_bind (wpAny_dictEntries gb ub ?_)
  rw [← sa, ← sb] at h hits
  by_cases sz : ea.size = eb.size
  · have h' : Q r s := by
      rw [sz, beq_self_eq_true, Bool.true_and] at h
      exact h
    have hits' := hits sz
    rw [if_neg (by simp [sz])]
    refine wpAny_bind (wpAny_dictEpoch ga ua (wpAny_bind ?_))
    rw [Std.Legacy.Range.forIn_eq_forIn_range']
    simp only [Std.Legacy.Range.size, Nat.sub_zero, Nat.add_sub_cancel, Nat.div_one]
    refine wpAny_forIn_list _ (fun rest q s' => s' = s ∧ q = (none, ()) ∧ ∃ i, rest = List.range' i (ea.size - i) ∧ i ≤ ea.size ∧ HitsT A s kb (ka.drop i) r) _ (fun x rest q s' hx => ?_) (fun q s' hx => ?_) _ _ ⟨rfl, rfl, 0, by simp, Nat.zero_le _, hits'⟩
    · obtain ⟨es, eq, i, hr, hi, pre⟩ := hx
      subst es eq
      have lt : i < ea.size := by
        rcases Nat.lt_or_ge i ea.size with z | z
        · exact z
        · rw [Nat.sub_eq_zero_of_le z] at hr
          cases hr
      have hr2 : x :: rest = i :: List.range' (i + 1) (ea.size - (i + 1)) := by
        rw [hr, show ea.size - i = (ea.size - (i + 1)) + 1 by omega, List.range'_succ]
      obtain ⟨ex, er⟩ := List.cons.inj hr2
      subst ex
      refine wpAny_bind (wpAny_dictEntries ga ua ?_)
      have lk : x < ka.length := sa ▸ lt
      have en : ea[x]? = some (entryOfKey knd ka[x]) := by rw [entry_at ta x, List.getElem?_eq_getElem lk]; rfl
      rw [en]
      rw [List.drop_eq_getElem_cons lk] at pre
      have iy := ia ka[x] (List.getElem_mem lk)
      generalize ka[x] = y at pre en iy
      show wpAny _ _ (holding [Value.ref y.2.1, y.2.2] _ >>= _) _ _ _
      refine wpAny_bind (wpAny_holding (wpAny_bind ?_))
      show wpAny _ _ (dictFind b (.ref y.2.1) (knd.hash y.1)) _ _ _
      refine wpAny_dictFind_heap hu iy gb ub tb ib nb (fun no => ?_) (fun j p hj => ?_)
      · have mis : r = false := by
          cases pre with
          | miss _ => rfl
          | hit f _ _ =>
            rw [atKey_none_of_get no] at f
            cases f
        rw [mis] at h'
        refine wpAny_pure ?_
        show wpAny _ _ (if (!false) = true then _ else _) _ _ _
        rw [if_pos (by decide)]
        exact wpAny_pure (wpAny_pure h')
      · refine wpAny_bind (wpAny_dictEntries gb ub ?_)
        have fnd := atKey_of_get nb hj
        rw [entry_at tb j, hj]
        cases pre with
        | miss f =>
          rw [fnd] at f
          cases f
        | @hit _ p' _ e b' f q pre' =>
          obtain rfl : p = p' := Option.some.inj (fnd.symm.trans f)
          refine wpAny_holding (q prog w _ _ ?_)
          cases e with
          | false =>
            rw [Bool.false_and] at h'
            show wpAny _ _ (if (!false) = true then _ else _) _ _ _
            rw [if_pos (by decide)]
            exact wpAny_pure (wpAny_pure h')
          | true =>
            rw [Bool.true_and]
            show wpAny _ _ (if (!true) = true then _ else _) _ _ _
            rw [if_neg (by decide)]
            refine wpAny_bind (wpAny_dictEpoch ga ua ?_)
            rw [if_neg (by simp)]
            exact wpAny_pure ⟨rfl, rfl, x + 1, er, lt, pre'⟩
    · obtain ⟨es, eq, i, hr, hi, pre⟩ := hx
      subst es eq
      have ei : i = ea.size := by
        rcases Nat.lt_or_ge i ea.size with z | z
        · rw [show ea.size - i = (ea.size - (i + 1)) + 1 by omega, List.range'_succ] at hr
          cases hr
        · omega
      refine wpAny_pure ?_
      rw [ei, sa, List.drop_length] at pre
      cases pre
      exact h'
  · have ne : (ea.size == eb.size) = false := by simpa using sz
    rw [ne, Bool.false_and] at h
    rw [if_pos (by simp [sz])]
    exact wpAny_bind (wpAny_rule (wpAny_pure h))
theorem eqT {a b : Addr} {ka kb : List (K × Addr × Value)} {r : Bool} {Q : Value → Shared → Prop} (hu : A.units < cLine) (rm : knd.room A.in1) (ha : (a == sysModules) = false) (hb : (b == sysModules) = false)
    (da : s.heap.DictOfH knd a ka) (db : s.heap.DictOfH knd b kb) (hits : ka.length = kb.length → HitsT A.in1 s kb ka r) (h : Q (.bool (ka.length == kb.length && r)) s) : wpAny (model prog w) A (compareOp .Eq (.ref a) (.ref b)) Q E s := by
  have ta : s.TypeIs (.ref a) "dict" := da.typeIs
  have tb : s.TypeIs (.ref b) "dict" := db.typeIs
  refine wpAny_richCompare_same_room (op := .Eq) ta tb PySem.F.slot_dict_eq (wpAny_call_entry PySem.F.slot_dict_eq ta PySem.F.entry_dict_eq ?_ (PySem.F.args_dict_eq_2 _ _)) hu
  show wpAny _ _ (Builtin.Dict.dictSlotArgs "__eq__" ⟨[.ref a, .ref b], []⟩ >>= _) _ _ s
  unfold Builtin.Dict.dictSlotArgs
  refine wpAny_bind (wpAny_bind (wpAny_notOrdered_dict ta ?_))
  show wpAny _ _ (pure (Value.ref a, Value.ref b)) _ _ s
  refine wpAny_pure (wpAny_bind (wpAny_isInstance (T := "dict") tb PySem.F.sub_dict_dict ?_))
  simp only [Bool.not_true, Bool.false_eq_true, if_false]
  refine wpAny_bind (wpAny_pure (wpAny_bind (wpAny_pure (wpAny_bind (samePairsT rm ha hb da db hits ?_)))))
  exact wpAny_pure ⟨_, rfl, (fun x => nomatch x), (by simpa using h)⟩
theorem neT {a b : Addr} {ka kb : List (K × Addr × Value)} {r : Bool} {Q : Value → Shared → Prop} (hu : A.units < cLine) (rm : knd.room A.in1) (ha : (a == sysModules) = false) (hb : (b == sysModules) = false)
    (da : s.heap.DictOfH knd a ka) (db : s.heap.DictOfH knd b kb) (hits : ka.length = kb.length → HitsT A.in1 s kb ka r) (h : Q (.bool (!(ka.length == kb.length && r))) s) : wpAny (model prog w) A (compareOp .NotEq (.ref a) (.ref b)) Q E s := by
  have ta : s.TypeIs (.ref a) "dict" := da.typeIs
  have tb : s.TypeIs (.ref b) "dict" := db.typeIs
  refine wpAny_richCompare_same_room (op := .NotEq) ta tb PySem.F.slot_dict_ne (wpAny_call_entry PySem.F.slot_dict_ne ta PySem.F.entry_dict_ne ?_ (PySem.F.args_dict_ne_2 _ _)) hu
  show wpAny _ _ (Builtin.Dict.dictSlotArgs "__ne__" ⟨[.ref a, .ref b], []⟩ >>= _) _ _ s
  unfold Builtin.Dict.dictSlotArgs
  refine wpAny_bind (wpAny_bind (wpAny_notOrdered_dict ta ?_))
  show wpAny _ _ (pure (Value.ref a, Value.ref b)) _ _ s
  refine wpAny_pure (wpAny_bind (wpAny_isInstance (T := "dict") tb PySem.F.sub_dict_dict ?_))
  simp only [Bool.not_true, Bool.false_eq_true, if_false]
  refine wpAny_bind (wpAny_pure (wpAny_bind (wpAny_pure (wpAny_bind (samePairsT rm ha hb da db hits ?_)))))
  exact wpAny_pure ⟨_, rfl, (fun x => nomatch x), (by simpa using h)⟩
end
section
variable {X : Cx}
/-- whether two dicts by tuples hold the same -/
def dtSame (ks ls : List (List Key × V)) : Bool := ks.length == ls.length && ks.all fun p => decide (valV ls p.1 = some p.2)
def intsT (ks : List (List Key × V)) : Prop := ∀ p ∈ ks, ∃ i, p.2 = V.int i
theorem hitsT_of {A : Around} {s : Shared} {H : Hp} {ls : List (List Key × V)} {yb : List (List Key × Addr × Value)} (rb : KT H ls yb) (lb : intsT ls) {ks : List (List Key × V)} {ya : List (List Key × Addr × Value)} (ra : KT H ks ya) :
    intsT ks → HitsT A s yb ya (ks.all fun p => decide (valV ls p.1 = some p.2)) := by
  induction ra with
  | nil => intro _; exact .nil
  | @cons p q ps qs h t ih =>
    intro ip
    obtain ⟨h1, _, h2⟩ := h
    obtain ⟨i, ei⟩ := ip p List.mem_cons_self
    have z := rb.val p.1
    rw [List.all_cons]
    cases c : valV ls p.1 with
    | none =>
      have n : decide ((none : Option V) = some p.2) = false := by simp
      rw [c] at z
      rw [n, Bool.false_and]
      refine .miss ?_
      rw [← h1]
      cases d : atKey yb p.1 with
      | none => rfl
      | some y =>
        rw [d] at z
        exact (show False from z).elim
    | some v =>
      rw [c] at z
      obtain ⟨pr, hm, em⟩ : ∃ pr ∈ ls, pr.2 = v := by
        obtain ⟨pr, f, e⟩ := Option.map_eq_some_iff.mp c
        exact ⟨pr, List.mem_of_find?_eq_some f, e⟩
      obtain ⟨j, ej⟩ := lb pr hm
      obtain rfl : v = V.int j := em.symm.trans ej
      obtain ⟨u, hu, ru⟩ := RelO.some_of z
      obtain ⟨pq, hq, eq⟩ := Option.map_eq_some_iff.mp hu
      obtain ⟨t1, eu⟩ := (show ∃ t, u = Value.int j t from ru)
      rw [ei] at h2
      obtain ⟨t2, eq2⟩ := (show ∃ t, q.2.2 = Value.int i t from h2)
      refine .hit (p := pq) (by rw [← h1]; exact hq) ?_ (ih fun p' hp => ip p' (List.mem_cons_of_mem _ hp))
      rw [eq, eu, eq2, ei]
      have dd : decide ((some (V.int j) : Option V) = some (V.int i)) = (i == j) := by
        by_cases ij : i = j
        · subst ij; simp
        · have : ¬ j = i := fun z => ij z.symm
          simp [ij, this]
      rw [dd]
      exact SeqAt.EqAt.int_int i t2 j t1
def rEqT : R2 := fun x y H Q => ∃ a b ks ls, x = .ref a ∧ y = .ref b ∧ H a = some (.dT ks) ∧ H b = some (.dT ls) ∧ intsT ks ∧ intsT ls ∧ Q (.bl (dtSame ks ls)) H
def rNeT : R2 := fun x y H Q => ∃ a b ks ls, x = .ref a ∧ y = .ref b ∧ H a = some (.dT ks) ∧ H b = some (.dT ls) ∧ intsT ks ∧ intsT ls ∧ Q (.bl (!dtSame ks ls)) H
theorem op_eqT (hu : X.A.units + 1 < cLine) : OpR X (compareOp .Eq) rEqT := by
  intro pins s σ H x y v u Q I rx ry h
  obtain ⟨a, b, ks, ls, rfl, rfl, ea, eb, ia, ib, q⟩ := h
  cases (show v = Value.ref a from rx)
  cases (show u = Value.ref b from ry)
  obtain ⟨_, za, xa, ra, da⟩ := dt_of I.hok ea
  obtain ⟨_, zb, xb, rb, db⟩ := dt_of I.hok eb
  refine eqT (knd := tupleKind (mixKind X.prog X.w)) (Nat.lt_of_succ_lt hu) (tupleKind_room_in1 hu) za zb da db (fun _ => hitsT_of rb ib ra ia) (fin_bl I q ?_)
  unfold dtSame
  rw [Paired.length ra, Paired.length rb]
theorem op_neT (hu : X.A.units + 1 < cLine) : OpR X (compareOp .NotEq) rNeT := by
  intro pins s σ H x y v u Q I rx ry h
  obtain ⟨a, b, ks, ls, rfl, rfl, ea, eb, ia, ib, q⟩ := h
  cases (show v = Value.ref a from rx)
  cases (show u = Value.ref b from ry)
  obtain ⟨_, za, xa, ra, da⟩ := dt_of I.hok ea
  obtain ⟨_, zb, xb, rb, db⟩ := dt_of I.hok eb
  refine neT (knd := tupleKind (mixKind X.prog X.w)) (Nat.lt_of_succ_lt hu) (tupleKind_room_in1 hu) za zb da db (fun _ => hitsT_of rb ib ra ia) (fin_bl I q ?_)
  unfold dtSame
  rw [Paired.length ra, Paired.length rb]
end
end L2.RV
set_option Elab.async false
set_option linter.all false
set_option maxRecDepth 100000
set_option maxHeartbeats 4000000
/-! Walks over d.values() and d.items(), d by tuples. -/
namespace L2.RV
open PySem PySem.Spec PyProof.Rows
section
variable {X : Cx} {pins : List (Addr × Obj)} {σ : L2.St} {H : Hp} {s : Shared} {d : Addr} {o : Obj}
/-- a locked dict by tuples: its entries, their keys' tuples and values -/
theorem frzV {kvs : List (List Key × V)} (I : Inv X pins σ H s) (h : H d = some (.frz o (.dT kvs))) :
    (d == sysModules) = false ∧ ∃ (es : Array DictEntry) (ep : Nat), o.data = .dict es ep ∧ s.heap.DictRaw d es ep ∧ es.size = kvs.length ∧
      ∀ (i : Nat) (hi : i < es.size) (k : List Key) (v : V), kvs[i]? = some (k, v) → RelV v es[i].val ∧ ∃ q : Addr, es[i].key = .ref q ∧ H q = some (.tup (k.map kV)) := by
  obtain ⟨g, _, nm, xs, pr, o', es, ep, g', ex, dat, te, _⟩ := I.hok d _ h
  obtain rfl : o = o' := Option.some.inj (g.symm.trans g')
  refine ⟨nm, es, ep, dat, ⟨o, g, ex, dat⟩, (size_of_entries te).trans (Paired.length pr).symm, fun i hi k v e => ?_⟩
  obtain ⟨b, hb, e1, e2, e3⟩ := paired_get pr e
  have q := entry_at te i
  rw [hb, Array.getElem?_eq_getElem hi] at q
  rw [Option.some.inj q]
  exact ⟨e3, b.2.1, rfl, e2⟩
end
/-- the values -/
def Itdv (d : Addr) (o : Obj) (kvs : List (List Key × V)) : It where
  go := fun i H => H d = some (.frz o (.dT kvs)) ∧ i < kvs.length
  yld := fun i H x H' => H' = H ∧ ∃ k, kvs[i]? = some (k, x)
  stop := fun i H => H d = some (.frz o (.dT kvs)) ∧ kvs.length ≤ i
/-- the pairs, each a new tuple of the key's own one and the value -/
def Itdi (d : Addr) (o : Obj) (kvs : List (List Key × V)) : It where
  go := fun i H => H d = some (.frz o (.dT kvs)) ∧ i < kvs.length
  yld := fun i H x H' => ∃ T q k v, kvs[i]? = some (k, v) ∧ x = .ref T ∧ H q = some (.tup (k.map kV)) ∧ H T = none ∧ H' = upd H T (.tup [.ref q, v])
  stop := fun i H => H d = some (.frz o (.dT kvs)) ∧ kvs.length ≤ i
section
variable {P : Program} {w : World} {K : PySem.W.Frag} {tg : Expr} {d : Addr} {o : Obj} {es : Array DictEntry} {ep : Nat}
theorem turn_valsT {kvs : List (List Key × V)} (it : Addr) (hod : o.data = .dict es ep) : Turn P w K tg (Itdv d o kvs) [it] it (fun i h => h.IsValIter it d i kvs.length ep) where
  mem := by simp
  obj := fun i h st b hb => by
    obtain rfl : b = it := by simpa using hb
    obtain ⟨oi, e, _, dd⟩ := st
    refine ⟨oi, e, fun v z => ?_⟩
    rw [dd] at z
    cases z
  keep := fun i h h' st k => st.at fun oi e => k it (by simp) oi e
  item := by
    intro X hP hw hK hc i pins s σ H E I hf st hg
    subst hP hw hK
    obtain ⟨hd, hi⟩ := hg
    have ff := hf it (by simp)
    obtain ⟨_, es', ep', dat, raw, sz, ent⟩ := frzV I hd
    obtain ⟨rfl, rfl⟩ := dict_ep hod dat
    have lt : i < es'.size := by omega
    have hkv : kvs[i]? = some (kvs[i].1, kvs[i].2) := List.getElem?_eq_getElem hi
    rw [← sz] at st
    refine wpAny_pyNext_values_item_raw st raw lt fun h' st' sb => ?_
    have I1 : Inv X pins σ H { s with heap := h' } := I.turned (t' := s.toks) (fun b ob hb e => (sb.2 b hb).trans e) ff.1 ff.2.1 ff.2.2.2.1 ff.2.2.2.2.1 ff.2.2.2.2.2
    obtain ⟨oi, e, c, dd⟩ := id st'
    refine ⟨es'[i].val, rfl, go_of (s := { s with heap := h' }) e c dd (by decide) ⟨kvs[i].2, H, I1, (ent i lt _ _ hkv).1, ⟨rfl, _, hkv⟩, ?_, fun b hb => (hf b hb).1⟩⟩
    show h'.IsValIter it d (i + 1) kvs.length _
    rw [← sz]
    exact st'
  done := by
    intro X hP hw hK hc i pins s σ H E I hf st hg
    subst hP hw hK
    obtain ⟨hd, hi⟩ := hg
    have ff := hf it (by simp)
    obtain ⟨_, es', ep', dat, raw, sz, ent⟩ := frzV I hd
    obtain ⟨rfl, rfl⟩ := dict_ep hod dat
    rw [← sz] at st
    exact wpAny_pyNext_values_end_raw (I.ok.hd hc) st raw (by omega) fun h' eb => ⟨rfl, I.turned (t' := s.toks) (fun b ob hb e => eb b ob hb e) ff.1 ff.2.1 ff.2.2.2.1 ff.2.2.2.2.1 ff.2.2.2.2.2⟩
  self := fun A i s Q E st h => wpAny_pyIter_valiter st h
theorem turn_itemsT {kvs : List (List Key × V)} {elts : List Expr} {kk : Nat} {tpos : Pos} (it : Addr) (hod : o.data = .dict es ep) :
    Turn P w K (.Tuple elts kk tpos) (Itdi d o kvs) [it] it (fun i h => ∃ ok ov, IsItemIter h it d i kvs.length ep ok ov) where
  mem := by simp
  obj := fun i h st b hb => by
    obtain rfl : b = it := by simpa using hb
    obtain ⟨ok, ov, e⟩ := st
    exact ⟨_, e, fun v z => nomatch z⟩
  keep := fun i h h' st k => let ⟨ok, ov, e⟩ := st; ⟨ok, ov, k it (by simp) _ e⟩
  item := by
    intro X hP hw hK hc i pins s σ H E I hf st hg
    subst hP hw hK
    obtain ⟨hd, hi⟩ := hg
    obtain ⟨_, es', ep', dat, raw, sz, ent⟩ := frzV I hd
    obtain ⟨rfl, rfl⟩ := dict_ep hod dat
    have lt : i < es'.size := by omega
    have hkv : kvs[i]? = some (kvs[i].1, kvs[i].2) := List.getElem?_eq_getElem hi
    obtain ⟨rv, q, ek, hq⟩ := ent i lt _ _ hkv
    obtain ⟨ok, ov, he⟩ := st
    rw [← sz] at he
    have below : it < s.heap.objs.size := Heap.lt_size he
    refine wpAny_pyNext_items_item_raw he raw lt fun h' ho hT hz hk => ?_
    refine ⟨_, rfl, wpAny_letOwnedTupleGo_items (s := { s with heap := h' }) ho fun h'' he' sb => ?_⟩
    have hT2 : h''.get? s.heap.objs.size = some { cls := .type "tuple", data := .seq #[es'[i].key, es'[i].val] } := (sb.2 _ (Nat.ne_of_gt below)).trans hT
    have new : ObjOk X.prog X.w (upd H s.heap.objs.size (.tup [.ref q, kvs[i].2])) h'' s.heap.objs.size (.tup [.ref q, kvs[i].2]) :=
      ⟨by show 2 ≤ sizeLine; decide, [es'[i].key, es'[i].val], .cons ek (.cons rv .nil), ⟨_, hT2, rfl, _, rfl⟩⟩
    have I1 := I.turnedNew (t' := s.toks) (h' := h'') (ch := [it]) (fun b ob hb e => (sb.2 b (by simpa using hb)).trans (hk b ob (by simpa using hb) e)) hf (Nat.le_refl _) new
    refine ⟨.ref s.heap.objs.size, _, I1, rfl, ⟨_, q, _, _, hkv, rfl, hq, I.hok.fresh (Nat.le_refl _), rfl⟩, ⟨es'[i].key, es'[i].val, by rw [← sz]; exact he'⟩, fun b hb => ?_⟩
    obtain rfl : b = it := by simpa using hb
    exact (upd_ne (Nat.ne_of_lt below)).trans (hf b (by simp)).1
  done := by
    intro X hP hw hK hc i pins s σ H E I hf st hg
    subst hP hw hK
    obtain ⟨hd, hi⟩ := hg
    have ff := hf it (by simp)
    obtain ⟨_, es', ep', dat, raw, sz, ent⟩ := frzV I hd
    obtain ⟨rfl, rfl⟩ := dict_ep hod dat
    obtain ⟨ok, ov, he⟩ := st
    rw [← sz] at he
    exact wpAny_pyNext_items_end_raw (I.ok.hd hc) he raw (by omega) fun h' eb => ⟨rfl, I.turned (t' := s.toks) (fun b ob hb e => eb b ob hb e) ff.1 ff.2.1 ff.2.2.2.1 ff.2.2.2.2.1 ff.2.2.2.2.2⟩
  self := fun A i s Q E st h => let ⟨_, _, e⟩ := st; PySem.W.kcp_self e h
end
/-- the dict is locked by the caller -/
def iValsT (td : TE) : TI := fun σ H R => td σ H fun x H1 => ∃ d o kvs, x = .ref d ∧ H1 d = some (.frz o (.dT kvs)) ∧ R (Itdv d o kvs) H1
def iItemsT (td : TE) : TI := fun σ H R => td σ H fun x H1 => ∃ d o kvs, x = .ref d ∧ H1 d = some (.frz o (.dT kvs)) ∧ R (Itdi d o kvs) H1
section
variable {X : Cx} {tg e : Expr} {td : TE} {apos cpos : Pos}
theorem pi_valuesT (he : PE X e td) (hbase : attributeBase e "values" X.env (eval e X.env) = eval e X.env := by rfl) (hline : (apos.endLine == cpos.line) = true := by rfl) : PI X tg (.Call (.Attribute e "values" apos) [] [] cpos) (iValsT td) := by
  refine ⟨fun pins s σ H R I h => ?_⟩
  refine wpAny_Call_method (T := "dict") (id := "dict.values") hbase rfl hline F.plainAttrs_dict F.slot_dict_values F.type_dict_values (thn (he.run pins s σ H _ I h) fun u sA hA => ?_)
  obtain ⟨x, H1, I1, rx, d, o, kvs, rfl, hd, q⟩ := hA
  cases (show u = Value.ref d from rx)
  obtain ⟨nm, es, ep, dat, raw, sz, ent⟩ := frzV I1 hd
  refine ⟨raw.typeIs, ?_, ?_⟩
  · intro a ea
    cases ea
    obtain ⟨o', g, x, _⟩ := raw
    exact ⟨o', g, x.2.1⟩
  have I2 : Inv X pins σ H1 { sA with heap := sA.heap.push { cls := .type "dict_values", data := .fields #[.ref d] } } := I1.kept (t' := sA.toks) fun b ob q => Heap.get?_push_of_some _ q
  have fin : wpAny (model X.prog X.w) X.A (pyIter (.ref sA.heap.objs.size)) (PIE X pins σ tg R) X.xe { sA with heap := sA.heap.push { cls := .type "dict_values", data := .fields #[.ref d] } } := by
    refine wpAny_pyIter_values_raw (d := d) ⟨_, Heap.get?_push_size _ rfl, rfl, rfl⟩ (raw.at fun o e => Heap.get?_push_of_some _ e) (pi_one (tk := sA.toks) I2 _ (turn_valsT _ dat) ⟨_, Heap.get?_push_size _ rfl, rfl, ?_⟩ q)
    rw [sz] <;> rfl
  show wpAny _ _ (callWith cpos (.builtin "dict.values") [.ref d] [] []) _ X.xe sA
  exact method_meetsIn F.slot_dict_values F.entry_dict_values rfl (PySem.evalArgs_none ⟨rfl, raw.typeIs, F.args_dict_values_1 _, _, meets_dict_values_raw d nm, ⟨⟨es, ep, raw⟩, fin⟩⟩)
theorem pi_itemsT {elts : List Expr} {kk : Nat} {tpos : Pos} (he : PE X e td) (hbase : attributeBase e "items" X.env (eval e X.env) = eval e X.env := by rfl) (hline : (apos.endLine == cpos.line) = true := by rfl) :
    PI X (.Tuple elts kk tpos) (.Call (.Attribute e "items" apos) [] [] cpos) (iItemsT td) := by
  refine ⟨fun pins s σ H R I h => ?_⟩
  refine wpAny_Call_method (T := "dict") (id := "dict.items") hbase rfl hline F.plainAttrs_dict F.slot_dict_items F.type_dict_items (thn (he.run pins s σ H _ I h) fun u sA hA => ?_)
  obtain ⟨x, H1, I1, rx, d, o, kvs, rfl, hd, q⟩ := hA
  cases (show u = Value.ref d from rx)
  obtain ⟨nm, es, ep, dat, raw, sz, ent⟩ := frzV I1 hd
  refine ⟨raw.typeIs, ?_, ?_⟩
  · intro a ea
    cases ea
    obtain ⟨o', g, x, _⟩ := raw
    exact ⟨o', g, x.2.1⟩
  have I2 : Inv X pins σ H1 { sA with heap := sA.heap.push { cls := .type "dict_items", data := .fields #[.ref d] } } := I1.kept (t' := sA.toks) fun b ob q => Heap.get?_push_of_some _ q
  have fin : wpAny (model X.prog X.w) X.A (pyIter (.ref sA.heap.objs.size)) (PIE X pins σ (.Tuple elts kk tpos) R) X.xe { sA with heap := sA.heap.push { cls := .type "dict_items", data := .fields #[.ref d] } } := by
    refine wpAny_pyIter_items_raw (d := d) ⟨_, Heap.get?_push_size _ rfl, rfl, rfl⟩ (raw.at fun o e => Heap.get?_push_of_some _ e) (pi_one (tk := sA.toks) I2 _ (turn_itemsT _ dat) ⟨.none, .none, ?_⟩ q)
    rw [← sz]
    exact Heap.get?_push_size _ rfl
  show wpAny _ _ (callWith cpos (.builtin "dict.items") [.ref d] [] []) _ X.xe sA
  exact method_meetsIn F.slot_dict_items F.entry_dict_items rfl (PySem.evalArgs_none ⟨rfl, raw.typeIs, F.args_dict_items_1 _, _, meets_dict_items_raw d nm, ⟨⟨es, ep, raw⟩, fin⟩⟩)
end
section
variable {d : Addr} {o : Obj} {kvs : List (List Key × V)}
theorem walk_valsT : Walk (Itdv d o kvs) kvs.length (fun H => H d = some (.frz o (.dT kvs))) (fun i H x H' => H' = H ∧ ∃ k, kvs[i]? = some (k, x)) :=
  ⟨fun i H hi h => ⟨h, hi⟩, fun H h => ⟨h, Nat.le_refl _⟩, fun i H x H' _ _ y => y⟩
theorem walk_itemsT : Walk (Itdi d o kvs) kvs.length (fun H => H d = some (.frz o (.dT kvs))) (fun i H x H' => ∃ T q k v, kvs[i]? = some (k, v) ∧ x = .ref T ∧ H q = some (.tup (k.map kV)) ∧ H T = none ∧ H' = upd H T (.tup [.ref q, v])) :=
  ⟨fun i H hi h => ⟨h, hi⟩, fun H h => ⟨h, Nat.le_refl _⟩, fun i H x H' _ _ y => y⟩
end
end L2.RV
set_option Elab.async false
set_option linter.all false
set_option maxRecDepth 100000
set_option maxHeartbeats 4000000
/-! dict(xs) of a list of pairs whose keys are tuples. -/
namespace L2.RV
open PySem PySem.Spec PyProof.Rows
section
variable {prog : Program} {w : World} {A : Around} {E : Value → Shared → Prop}
abbrev tkm (prog : Program) (w : World) : HeapKind prog w (List L2.Key) := tupleKind (mixKind prog w)
/-- one pair after the other -/
def mergeH (acc : List (List L2.Key × Addr × Value)) (more : List (List L2.Key × Addr × Value)) : List (List L2.Key × Addr × Value) := more.foldl (fun d q => storedH d q.1 q.2.1 q.2.2) acc
theorem key_keep {h h' : Heap} {k : List L2.Key} {a : Addr} (x : (tkm prog w).is h k a) (e : ∀ o, h.get? a = some o → h'.get? a = some o) : (tkm prog w).is h' k a := by
  obtain ⟨o, its, n, g, r⟩ := x
  exact ⟨o, its, n, e _ g, r⟩
theorem key_ne {h : Heap} {k : List L2.Key} {a b l : Addr} {i : Nat} (x : (tkm prog w).is h k a) (y : h.IsListIter b l i) : a ≠ b := by
  rintro rfl
  obtain ⟨o, its, n, g, c, _⟩ := x
  obtain ⟨o', g', c', _⟩ := y
  rw [g] at g'
  cases g'
  rw [c] at c'
  injection c' with z
  exact absurd z (by decide)
theorem dict_keep {h h' : Heap} {S b l : Addr} {i : Nat} {acc : List (List L2.Key × Addr × Value)} (x : h.DictOfH (tkm prog w) S acc) (y : h.IsListIter b l i) (ne : S ≠ b) (e : ∀ c o, c ≠ b → h.get? c = some o → h'.get? c = some o) : h'.DictOfH (tkm prog w) S acc := by
  obtain ⟨o, es, ep, g, ex, dd, te, ks, nd⟩ := x
  exact ⟨o, es, ep, e _ _ ne g, ex, dd, te, fun z hz => key_keep (ks z hz) fun o' => e _ _ (key_ne (ks z hz) y), nd⟩
theorem stored_le {xs : List (List L2.Key × Addr × Value)} {k : List L2.Key} {a : Addr} {v : Value} : (storedH xs k a v).length ≤ xs.length + 1 := by
  unfold storedH
  split
  · rw [List.length_map]; exact Nat.le_succ _
  · rw [List.length_append]; exact Nat.le_refl _
/-- what is left of the pairs -/
theorem upd_loopT {R : Result → Shared → Prop} {S I l : Addr} {items : Array Value} {res : Value} (hu : A.units + 2 < cLine) (hh : A.handled = none) (lI : l ≠ I) (SI : S ≠ I) (Sl : S ≠ l) :
    ∀ (rest : List (List L2.Key × Addr × Value)) (i : Nat) (acc : List (List L2.Key × Addr × Value)) (ix : Int) (t : Tok) (s : Shared), items.size = i + rest.length → acc.length + rest.length ≤ sizeLine →
      (∀ (j : Nat) (q : List L2.Key × Addr × Value), rest[j]? = some q → ∃ b : Addr, items[i + j]? = some (.ref b) ∧ b ≠ S ∧ b ≠ I ∧ IsTup s.heap b #[.ref q.2.1, q.2.2] ∧ q.2.1 ≠ S ∧ (tkm prog w).is s.heap q.1 q.2.1) →
      s.heap.IsListIter I l i → s.heap.IsList l items → s.heap.DictOfH (tkm prog w) S acc →
      (∀ h' tk, h'.DictOfH (tkm prog w) S (mergeH acc rest) → (∀ b o, b ≠ S → b ≠ I → s.heap.get? b = some o → h'.get? b = some o) → R (.ok (.ret res)) { s with heap := h', toks := tk }) →
      codeAny (model prog w) A (.builtin "dict.update.loop" ⟨[.ref S, .ref I, .int ix t, res], []⟩) R s := by
  intro rest
  induction rest with
  | nil =>
    intro i acc ix t s sz len tups iter lst dct fin
    refine codeAny_builtin ud_entry ?_
    rw [Around.under_plainId ud_plain _]
    show wpAny _ A.in1 (pyNext (.ref I) >>= _) _ _ s
    have past : items[i]? = none := Array.getElem?_eq_none (Nat.le_of_eq sz)
    refine wpAny_bind (wpAny_pyNext_list_end (A := A.in1) hh iter lst past fun h' he => ?_)
    show wpAny _ A.in1 (Builtin.Dict.addKeywords S [] >>= _) _ _ _
    exact wpAny_bind (wpAny_pure (wpAny_pure (fin h' s.toks (dict_keep dct iter SI fun c o n e => he c o n e) fun b o _ n e => he b o n e)))
  | cons q rest ih =>
    intro i acc ix t s sz len tups iter lst dct fin
    obtain ⟨b, hb, bS, bI, tup, qS, key⟩ := tups 0 q rfl
    rw [List.length_cons] at sz len
    refine codeAny_builtin ud_entry ?_
    rw [Around.under_plainId ud_plain _]
    show wpAny _ A.in1 (pyNext (.ref I) >>= _) _ _ s
    refine wpAny_bind (wpAny_pyNext_list_item (x := .ref b) iter lst (by simpa using hb) fun h1 iter1 sb1 => ?_)
    have tup1 : IsTup h1 b #[.ref q.2.1, q.2.2] := tup.extBut sb1.extBut bI
    have lst1 : h1.IsList l items := lst.extBut sb1.extBut lI
    have dct1 : h1.DictOfH (tkm prog w) S acc := dict_keep dct iter SI fun c o n e => sb1.extBut c o n e
    have key1 : (tkm prog w).is h1 q.1 q.2.1 := key_keep key fun o e => sb1.extBut _ o (key_ne key iter) e
    obtain ⟨o, g, c, n, dat⟩ := id tup1
    show wpAny _ A.in1 (holding [Value.ref b] _ >>= _) _ _ _
    refine wpAny_bind (wpAny_holding (wpAny_bind (wpAny_tryCatch ?_)))
    unfold Builtin.Dict.pairItems
    refine wpAny_bind (wpAny_typeOf (T := "tuple") ⟨o, g, c⟩ ?_)
    rw [if_pos (by first | decide | rfl | simp)]
    refine wpAny_bind (wpAny_seqItems g dat (wpAny_pure ?_))
    show wpAny _ A.in1 (holding [Value.ref q.2.1, q.2.2] (dictSet S (.ref q.2.1) q.2.2)) _ _ _
    refine wpAny_holding (wpAny_dictSet_heap (knd := tkm prog w) (k := q.1) (show A.in1.units < cLine from Nat.lt_of_le_of_lt (Nat.le_succ _) hu) key1 dct1 (fun h2 dct2 sb2 => ?_) (by omega))
    refine wpAny_pure ⟨plainId_quiet ud_plain _, ih (i + 1) (storedH acc q.1 q.2.1 q.2.2) (ix + 1) 0 _ (by omega) ?_ (fun j q' e => ?_) ?_ ?_ dct2 fun h' tk hd' k => ?_⟩
    · have z := stored_le (xs := acc) (k := q.1) (a := q.2.1) (v := q.2.2)
      omega
    · obtain ⟨b', hb', bS', bI', tup', qS', key'⟩ := tups (j + 1) q' (by simpa using e)
      refine ⟨b', ?_, bS', bI', (tup'.extBut sb1.extBut bI').extBut sb2.extBut bS', qS', key_keep (key_keep key' fun o e => sb1.extBut _ o (key_ne key' iter) e) fun o e => sb2.extBut _ o qS' e⟩
      rw [show i + 1 + j = i + (j + 1) by omega]
      exact hb'
    · exact iter1.at fun o' e => sb2.extBut I o' (Ne.symm SI) e
    · exact lst1.extBut sb2.extBut (Ne.symm Sl)
    · exact fin h' tk hd' fun c oc n1 n2 e => k c oc n1 n2 (sb2.extBut c oc n1 (sb1.extBut c oc n2 e))
theorem call_dict_pairsT {s : Shared} {l : Addr} {ol : Obj} {items : Array Value} {n : Nat} {prs : List (List L2.Key × Addr × Value)} {Q : Value → Shared → Prop} (hu : A.units + 4 < cLine) (hh : A.handled = none) (hl : s.heap.get? l = some ol) (hc : ol.cls = .type "list") (hd : ol.dict = none)
    (dat : ol.data = .seq items n) (sz : items.size = prs.length) (len : prs.length ≤ sizeLine)
    (tups : ∀ (j : Nat) (q : List L2.Key × Addr × Value), prs[j]? = some q → ∃ b : Addr, items[j]? = some (.ref b) ∧ IsTup s.heap b #[.ref q.2.1, q.2.2] ∧ (tkm prog w).is s.heap q.1 q.2.1)
    (h : ∀ h' tk, h'.DictOfH (tkm prog w) s.heap.objs.size (mergeH [] prs) → (∀ b o, s.heap.get? b = some o → h'.get? b = some o) → Q (.ref s.heap.objs.size) { s with heap := h', toks := tk }) :
    wpAny (model prog w) A (call (.type "dict") [.ref l]) Q E s := by
  refine callType_codes (Q₁ := fun obj sA => obj = .ref s.heap.objs.size ∧ sA = { s with heap := s.heap.push { cls := .type "dict", data := .dict #[] } }) PySem.F.kt_called_dict (PySem.F.kt_typeCall_dict_1 _) PySem.F.entry_dict_init (kt_code_dict_new _ ⟨rfl, rfl⟩) ?_
  intro obj sA hA
  obtain ⟨rfl, rfl⟩ := hA
  have new : (s.heap.push { cls := .type "dict", data := .dict #[] }).DictOfH (tkm prog w) s.heap.objs.size [] := Heap.DictOfH.new s.heap
  have k0 : ∀ b o, s.heap.get? b = some o → (s.heap.push { cls := .type "dict", data := .dict #[] }).get? b = some o := fun b o e => Heap.get?_push_of_some _ e
  have tD : Shared.TypeIs { s with heap := s.heap.push { cls := .type "dict", data := .dict #[] } } (.ref s.heap.objs.size) "dict" := new.typeIs
  refine ⟨tD, PySem.F.args_dict_init_2 _ _, ?_⟩
  unfold Builtin.«dict.__init__» Builtin.Dict.selfAndRest
  refine wpAny_bind (wpAny_bind (wpAny_notOrdered_dict tD ?_))
  show wpAny _ _ (pure (s.heap.objs.size, [Value.ref l])) _ _ _
  refine wpAny_pure ?_
  show wpAny _ _ (Builtin.Dict.updateFrom "dict.__init__" s.heap.objs.size (.ref l) [] .none) _ _ _
  unfold Builtin.Dict.updateFrom
  refine wpAny_bind (wpAny_typeOf (T := "list") ⟨ol, k0 _ _ hl, hc⟩ ?_)
  rw [if_pos (by first | decide | rfl | simp)]
  refine wpAny_bind (miss_list (k0 _ _ hl) hc dat hd hh fun h1 tk1 k1 => ?_)
  rw [if_pos (show (none : Option Value).isNone = true from rfl)]
  refine wpAny_bind (wpAny_rule ?_)
  have lst1 : h1.IsList l items := ⟨ol, k1 _ _ (k0 _ _ hl), hc, n, dat⟩
  have gS : (s.heap.push { cls := .type "dict", data := .dict #[] }).get? s.heap.objs.size = some { cls := .type "dict", data := .dict #[] } := Heap.get?_push_size _ rfl
  have S1 : s.heap.objs.size < h1.objs.size := Heap.lt_size (k1 _ _ gS)
  refine wpAny_bind (wpAny_pyIter_list lst1 ?_)
  have k2 : ∀ b o, h1.get? b = some o → (h1.push { cls := .type "list_iterator", data := .fields #[.ref l, .int 0 0] }).get? b = some o := fun b o e => Heap.get?_push_of_some _ e
  have kA : ∀ b o, s.heap.get? b = some o → (h1.push { cls := .type "list_iterator", data := .fields #[.ref l, .int 0 0] }).get? b = some o := fun b o e => k2 _ _ (k1 _ _ (k0 _ _ e))
  have below : l < s.heap.objs.size := Heap.lt_size hl
  have dct : (h1.push { cls := .type "list_iterator", data := .fields #[.ref l, .int 0 0] }).DictOfH (tkm prog w) s.heap.objs.size [] := ⟨_, #[], 0, k2 _ _ (k1 _ _ gS), ⟨rfl, rfl, rfl⟩, rfl, rfl, fun x hx => absurd hx List.not_mem_nil, List.nodup_nil⟩
  have key := upd_loopT (prog := prog) (w := w) (A := A.in1) (R := wants (fun r sZ => r = .none ∧ Q (.ref s.heap.objs.size) sZ) E) (S := s.heap.objs.size) (I := h1.objs.size) (l := l) (items := items) (res := Value.none)
    (by show A.in1.units + 2 < cLine; exact Nat.lt_of_le_of_lt (by show A.units + 1 + 2 ≤ A.units + 4; omega) hu) hh (Nat.ne_of_lt (Nat.lt_trans below S1)) (Nat.ne_of_lt S1) (Nat.ne_of_gt below) prs 0 [] 0 0
    { s with heap := h1.push { cls := .type "list_iterator", data := .fields #[.ref l, .int 0 0] }, toks := tk1 } (by rw [sz, Nat.zero_add]) (by rw [List.length_nil, Nat.zero_add]; exact len)
    (fun j q e => by
      obtain ⟨b, e1, e2, e3⟩ := tups j q e
      have lb : b < s.heap.objs.size := e2.lt
      have lq : q.2.1 < s.heap.objs.size := by
        obtain ⟨o, _, _, g, _⟩ := e3
        exact Heap.lt_size g
      exact ⟨b, by rw [Nat.zero_add]; exact e1, Nat.ne_of_lt lb, Nat.ne_of_lt (Nat.lt_trans lb S1), e2.keeps kA, Nat.ne_of_lt lq, key_keep e3 fun o => kA _ o⟩)
    ⟨_, Heap.get?_push_size _ rfl, rfl, rfl⟩ (lst1.at fun o e => k2 _ _ e) dct
    (fun h' tk hd' k => ⟨rfl, h h' tk hd' fun b o e => k b o (Nat.ne_of_lt (Heap.lt_size e)) (Nat.ne_of_lt (Nat.lt_trans (Heap.lt_size e) S1)) (kA _ _ e)⟩)
  first
    | exact wpAny_pure ⟨plainId_quiet ud_plain _, key⟩
    | exact wpAny_bind (wpAny_pure (wpAny_pure ⟨plainId_quiet ud_plain _, key⟩))
end
section
variable {X : Cx}
/-- a pair of a key's tuple and a value, at p -/
def PairAt (H : Hp) (p : Addr) (kv : List L2.Key × V) : Prop := ∃ q : Addr, H p = some (.tup [.ref q, kv.2]) ∧ H q = some (.tup (kv.1.map kV))
def mergeT (acc more : List (List L2.Key × V)) : List (List L2.Key × V) := more.foldl (fun d kv => putK d kv.1 kv.2) acc
theorem length_mergeT : ∀ (more acc : List (List L2.Key × V)), (mergeT acc more).length ≤ acc.length + more.length
  | [], acc => Nat.le_refl _
  | p :: r, acc => by
    have h1 := length_mergeT r (putK acc p.1 p.2)
    have h2 := length_putK acc p.1 p.2
    show (mergeT (putK acc p.1 p.2) r).length ≤ _
    rw [List.length_cons]
    omega
theorem KT.merge {H : Hp} : ∀ {more : List (List L2.Key × V)} {rs : List (List L2.Key × Addr × Value)} {kvs : List (List L2.Key × V)} {vs : List (List L2.Key × Addr × Value)}, KT H more rs → KT H kvs vs → KT H (mergeT kvs more) (mergeH vs rs)
  | _, _, _, _, .nil, r => r
  | _, _, kvs, vs, .cons (a := p) (b := q) h t, r => by
    have z := KT.put r p.1 (b := q.2.1) h.2.1 h.2.2
    show KT H (mergeT (putK kvs p.1 p.2) _) (mergeH (storedH vs q.1 q.2.1 q.2.2) _)
    rw [← h.1]
    exact KT.merge t z
theorem pairsT_of {pins : List (Addr × Obj)} {σ : L2.St} {H : Hp} {s : Shared} (I : Inv X pins σ H s) : ∀ {ps : List Addr} {kvs : List (List L2.Key × V)}, Paired (PairAt H) ps kvs →
    ∃ prs : List (List L2.Key × Addr × Value), KT H kvs prs ∧ prs.length = ps.length ∧ ∀ (j : Nat) (q : List L2.Key × Addr × Value), prs[j]? = some q → ∃ b : Addr, ps[j]? = some b ∧ IsTup s.heap b #[.ref q.2.1, q.2.2] ∧ (tkm X.prog X.w).is s.heap q.1 q.2.1
  | _, _, .nil => ⟨[], .nil, rfl, fun j q e => by simp at e⟩
  | _, _, .cons (a := p) (b := kv) h t => by
    obtain ⟨prs, r, hl, hp⟩ := pairsT_of I t
    obtain ⟨q, e1, e2⟩ := h
    obtain ⟨_, its, rv, tu⟩ := (show ObjOk X.prog X.w H s.heap p (.tup [.ref q, kv.2]) from I.hok p _ e1)
    obtain ⟨u, y, ei, ru, ry⟩ := vals2 rv
    subst ei
    cases (show u = Value.ref q from ru)
    refine ⟨(kv.1, q, y) :: prs, .cons ⟨rfl, e2, ry⟩ r, by rw [List.length_cons, List.length_cons, hl], fun j z e => ?_⟩
    cases j with
    | zero =>
      obtain rfl : (kv.1, q, y) = z := Option.some.inj e
      exact ⟨p, rfl, tu, key_of I.hok e2⟩
    | succ j =>
      obtain ⟨b, g1, g2, g3⟩ := hp j z (by simpa using e)
      exact ⟨b, by simpa using g1, g2, g3⟩
/-- dict(xs) of a list of pairs, the keys tuples -/
theorem call_dictT (hu : X.A.units + 4 < cLine) (calm : X.calm = true) : CallR X (.type "dict") (fun xs H Q => ∃ (a : Addr) (ps : List Addr) (kvs : List (List L2.Key × V)), xs = [.ref a] ∧ SqL X.K H a (ps.map V.ref) ∧ Paired (PairAt H) ps kvs ∧
    ∀ p, H p = none → Q (.ref p) (upd H p (.dT (mergeT [] kvs)))) := by
  intro pins s σ H xs us Q I r q
  obtain ⟨a, ps, kvs, rfl, hq, hp, q⟩ := q
  obtain ⟨u, rfl, rx⟩ := vals1 r
  cases (show u = Value.ref a from rx)
  obtain ⟨its, rv, pl, hz⟩ := I.list hq
  obtain rfl := refs_at rv
  rw [List.length_map] at hz
  obtain ⟨prs, rel, hl, hpr⟩ := pairsT_of I hp
  obtain ⟨o, n, ho, hc, hd, hdat⟩ := pl
  refine call_dict_pairsT (prs := prs) hu (I.ok.hd calm) ho hc hd hdat (by simp [hl]) (by rw [hl]; exact hz) (fun j q' e => ?_) fun h' tk hd' k => ?_
  · obtain ⟨b, e1, e2, e3⟩ := hpr j q' e
    exact ⟨b, by simp [e1], e2, e3⟩
  · have nm : (s.heap.objs.size == sysModules) = false := beq_eq_false_iff_ne.mpr (Nat.ne_of_gt I.big)
    have np : H s.heap.objs.size = none := I.hok.fresh (Nat.le_refl _)
    have hlen : (mergeT [] kvs).length ≤ sizeLine := by
      refine Nat.le_trans (length_mergeT kvs []) ?_
      rw [List.length_nil, Nat.zero_add, Paired.length rel, hl]
      exact hz
    obtain ⟨o2, es, ep, g1, g2, g3, g4, _, g5⟩ := hd'
    refine ⟨.ref s.heap.objs.size, upd H s.heap.objs.size (.dT (mergeT [] kvs)), I.laid (t' := tk) k (Nat.le_refl _) ⟨hlen, nm, mergeH [] prs, ?_, o2, es, ep, g1, g2, g3, g4, g5⟩, rfl, q _ np⟩
    exact KT.keeps (KT.merge rel .nil) fun c ys ec => (upd_ne (fun z => by rw [z, np] at ec; cases ec)).trans ec
end
end L2.RV
set_option Elab.async false
set_option linter.all false
set_option maxRecDepth 100000
set_option maxHeartbeats 4000000
/-! Rules whose transformers name K, not X.K: for the parts of comprehensions. -/
namespace L2.RV
open PySem PySem.Spec PyProof.Rows
section
variable {X : Cx} {K : PySem.W.Frag} {e a : Expr} {ta : TE} {f : Str} {pos : Pos} {tg : Expr}
theorem pe_fldK (hK : X.K = K) (he : PE X e ta) (hb : attributeBase e f X.env (eval e X.env) = eval e X.env) : PE X (.Attribute e f pos) (tFld K ta f) := hK ▸ pe_fld he hb
theorem ix_seqK (hK : X.K = K) : IxR X (rIx K) := hK ▸ ix_seq
theorem op_sameK (hK : X.K = K) (hu : X.A.units + 64 < cLine) : OpR X (compareOp .Eq) (rSame K) := hK ▸ op_same hu
theorem op_diffK (hK : X.K = K) (hu : X.A.units + 64 < cLine) : OpR X (compareOp .NotEq) (rDiff K) := hK ▸ op_diff hu
theorem op_inK (hK : X.K = K) : OpR X (compareOp .In) (rIn K false) := hK ▸ op_in_seq
theorem op_notInK (hK : X.K = K) : OpR X (compareOp .NotIn) (rIn K true) := hK ▸ op_notIn_seq
def rLenK (K : PySem.W.Frag) : List V → Hp → VK → Prop := fun xs H Q => ∃ x n, xs = [x] ∧ LenV K x H n ∧ Q (.int n) H
theorem call_lenK (hK : X.K = K) : CallR X (.builtin "len") (rLenK K) := by
  subst hK
  exact call_len
theorem pi_sqK (hK : X.K = K) (he : PE X e ta) : PI X tg e (iSq K ta) := hK ▸ pi_sq he
end
end L2.RV
set_option Elab.async false
set_option linter.all false
set_option maxRecDepth 100000
set_option maxHeartbeats 4000000
/-! len(set(xs)), xs a list or a tuple of texts. -/
namespace L2.RV
open PySem PySem.Spec PyProof.Rows
/-- each text once, in its first place -/
def once : List Str → List Str → List Str
  | acc, [] => acc
  | acc, x :: r => once (if acc.any (· == x) then acc else acc ++ [x]) r
theorem once_snoc : ∀ (xs acc : List Str) (x : Str), once acc (xs ++ [x]) = (if (once acc xs).any (· == x) then once acc xs else once acc xs ++ [x])
  | [], acc, x => rfl
  | y :: r, acc, x => once_snoc r _ x
theorem once_le : ∀ (xs acc : List Str), (once acc xs).length ≤ acc.length + xs.length
  | [], acc => Nat.le_refl _
  | x :: r, acc => by
    have z := once_le r (if acc.any (· == x) then acc else acc ++ [x])
    show (once (if acc.any (· == x) then acc else acc ++ [x]) r).length ≤ _
    rw [List.length_cons]
    split at z
    · rename_i c
      rw [if_pos c]
      omega
    · rename_i c
      rw [if_neg c]
      rw [List.length_append, List.length_cons, List.length_nil] at z
      omega
theorem once_any (k : Str) : ∀ (xs acc : List Str), (once acc xs).any (· == k) = (acc.any (· == k) || xs.any (· == k))
  | [], acc => by simp [once]
  | x :: r, acc => by
    show (once (if acc.any (· == x) then acc else acc ++ [x]) r).any (· == k) = _
    rw [once_any k r]
    by_cases c : acc.any (· == x) = true
    · rw [if_pos c, List.any_cons]
      by_cases e : x = k
      · subst e; rw [c]; simp
      · have n : (x == k) = false := by simpa using e
        rw [n, Bool.false_or]
    · rw [if_neg c, List.any_append, List.any_cons, List.any_cons, List.any_nil, Bool.or_false, Bool.or_assoc]
theorem once_nodup : ∀ (xs acc : List Str), xs.Nodup → (∀ x ∈ xs, x ∉ acc) → once acc xs = acc ++ xs
  | [], acc, _, _ => (List.append_nil acc).symm
  | x :: r, acc, nd, no => by
    rw [List.nodup_cons] at nd
    have c : ¬ acc.any (· == x) = true := fun z => by
      obtain ⟨y, hy, e⟩ := List.any_eq_true.mp z
      exact no x List.mem_cons_self (by rw [← eq_of_beq e]; exact hy)
    show once (if acc.any (· == x) then acc else acc ++ [x]) r = _
    rw [if_neg c, once_nodup r (acc ++ [x]) nd.2 (fun y hy z => ?_), List.append_assoc]
    · rfl
    · rcases List.mem_append.mp z with z | z
      · exact no y (List.mem_cons_of_mem _ hy) z
      · rw [List.mem_singleton.mp z] at hy
        exact nd.1 hy
section
variable {prog : Program} {w : World} {A : Around} {R : Result → Shared → Prop} {I : Addr} {fp wr : List Addr} {G : Array GenState → Array GenState → Prop} {n : Nat} {P : Nat → Value → Prop} {St : Nat → Shared → Prop}
abbrev SetAt (prog : Program) (w : World) (h : Heap) (S : Addr) (xs : List Str) : Prop := h.SetOf (PySem.strKind prog w) S (fun k' => (once [] xs).any (· == k')) (once [] xs).length
theorem loopOnce (W : WalksS prog w A.in1 I fp wr G n P St) (S : Addr) (apart : S ∉ fp) (xs : List Str) (len : xs.length = n) (few : n + 1 < scanBound) (val : ∀ i v, P i v → ∃ t, v = .str (xs.getD i Str.empty) t) :
    ∀ (m i : Nat) (s : Shared), m + i = n → St i s → SetAt prog w s.heap S (xs.take i) → (∀ s', Moved (S :: wr) G s s' → SetAt prog w s'.heap S xs → R (.ok (.ret .none)) s') →
      codeAny (model prog w) A (.builtin "set.update.loop" ⟨[.ref S, .ref I], []⟩) R s := by
  have Sw : S ∉ wr := fun h => apart (W.sub _ h)
  have up : ∀ b ∈ wr, b ∈ S :: wr := fun b => List.mem_cons_of_mem _
  intro m
  induction m with
  | zero =>
    intro i s e st sa fin
    obtain rfl : i = n := by omega
    refine codeAny_builtin PyProof.Rows.F.entry_set_update_loop ?_
    rw [Around.under_plainId PyProof.Rows.F.plain_set_update_loop _]
    show wpAny _ A.in1 (pyNext (.ref I) >>= _) _ _ s
    refine wpAny_bind (W.done s _ _ st fun s' mv => ?_)
    rw [← len, List.take_length] at sa
    show wpAny _ A.in1 (ret Value.none) _ _ s'
    refine wpAny_pure (fin s' (mv.mono up) ?_)
    obtain ⟨o, es, ep, t, g, rest⟩ := sa
    exact ⟨o, es, ep, t, mv.heap S _ Sw g, rest⟩
  | succ m ih =>
    intro i s e st sa fin
    have lt : i < n := by omega
    refine codeAny_builtin PyProof.Rows.F.entry_set_update_loop ?_
    rw [Around.under_plainId PyProof.Rows.F.plain_set_update_loop _]
    show wpAny _ A.in1 (pyNext (.ref I) >>= _) _ _ s
    refine wpAny_bind (W.item i s _ _ lt st fun v s' hv st' mv => ?_)
    obtain ⟨t, rfl⟩ := val i v hv
    have lx : i < xs.length := len ▸ lt
    have ex : xs.getD i Str.empty = xs[i] := by rw [List.getD_eq_getElem?_getD, List.getElem?_eq_getElem lx]; rfl
    rw [ex]
    have sa' : SetAt prog w s'.heap S (xs.take i) := by
      obtain ⟨o, es, ep, t, g, rest⟩ := sa
      exact ⟨o, es, ep, t, mv.heap S _ Sw g, rest⟩
    have room : (once [] (xs.take i)).length + 1 < scanBound := by
      have z := once_le (xs.take i) []
      rw [List.length_take, List.length_nil] at z
      omega
    show wpAny _ A.in1 (holding [Value.str xs[i] t] (setAdd S (.str xs[i] t)) >>= _) _ _ s'
    unfold setAdd
    refine wpAny_bind (wpAny_holding (wpAny_holding (wpAny_bind ((PySem.strKind prog w).pyHash (k := xs[i]) (strKind_is _ _ _ _) ?_))))
    refine wpAny_setAddHashed_of (knd := PySem.strKind prog w) (s := { s' with toks := s'.toks + 1 }) (strKind_is _ _ _ _) rfl sa' room fun h' sb sb2 => ?_
    have next : SetAt prog w h' S (xs.take (i + 1)) := by
      have et : xs.take (i + 1) = xs.take i ++ [xs[i]] := by rw [List.take_add_one, List.getElem?_eq_getElem lx]; rfl
      refine SetOf_congr sb2 (fun k' => ?_) ?_
      · rw [once_any, once_any, et, List.any_append]
        simp only [List.any_cons, List.any_nil, Bool.or_false, Bool.false_or]
        by_cases c : k' = xs[i]
        · rw [decide_eq_true c, ← c, beq_self_eq_true]
        · have n1 : (xs[i] == k') = false := by simpa using fun z : xs[i] = k' => c z.symm
          rw [decide_eq_false c, n1]
      · rw [et, once_snoc]
        split <;> simp
    refine wpAny_pure ⟨plainId_quiet PyProof.Rows.F.plain_set_update_loop _, ih (i + 1) _ (by omega) (W.frame _ s' _ _ st' (Nat.le_succ _) fun b hb o e => ?_) next fun s2 mv2 last => fin s2 (Moved.trans W.gtrans ((mv.mono up).then_heap (Nat.le_succ _) fun b o hb e => ?_) mv2) last⟩
    · exact (sb.2 b (fun z : b = S => apart (by rw [← z]; exact hb))).trans e
    · exact (sb.2 b (fun z : b = S => hb (by rw [z]; exact List.mem_cons_self))).trans e
end
section
variable {prog : Program} {w : World} {A : Around} {E : Value → Shared → Prop} {s : Shared}
abbrev bareSet (led : Bool) : Obj := { cls := .type "set", dict := none, data := .set #[] 0 (.fresh 0 0 led) }
/-- what the new set is filled with, the iterator just laid -/
theorem fill {l : Addr} {items : Array Value} {xs : List Str} {led : Bool} {o : Obj} {P : Nat → Value → Prop} {St : Nat → Shared → Prop} {G : Array GenState → Array GenState → Prop} {R : Result → Shared → Prop} {tk : Nat}
    (W : WalksS prog w A.in1 (s.heap.objs.size + 1) [s.heap.objs.size + 1, l] [s.heap.objs.size + 1] G items.size P St) (lt : l < s.heap.objs.size) (len : xs.length = items.size) (few : items.size + 1 < scanBound) (val : ∀ i v, P i v → ∃ t, v = .str (xs.getD i Str.empty) t)
    (st : St 0 { s with heap := (s.heap.push (bareSet led)).push o, toks := tk })
    (fin : ∀ s', Moved [s.heap.objs.size, s.heap.objs.size + 1] G { s with heap := (s.heap.push (bareSet led)).push o, toks := tk } s' → SetAt prog w s'.heap s.heap.objs.size xs → R (.ok (.ret .none)) s') :
    codeAny (model prog w) A (.builtin "set.update.loop" ⟨[.ref s.heap.objs.size, .ref (s.heap.objs.size + 1)], []⟩) R { s with heap := (s.heap.push (bareSet led)).push o, toks := tk } := by
  have g : ((s.heap.push (bareSet led)).push o).get? s.heap.objs.size = some (bareSet led) := Heap.get?_push_of_some _ (Heap.get?_push_size _ rfl)
  refine loopOnce W s.heap.objs.size ?_ xs len few val items.size 0 _ rfl st ?_ fin
  · intro z
    rcases List.mem_cons.mp z with z | z
    · exact Nat.ne_of_lt (Nat.lt_succ_self _) z
    · exact Nat.ne_of_gt lt (List.mem_singleton.mp z)
  · exact SetOf_congr ((PyProof.Rows.setObjOf_fresh (knd := PySem.strKind prog w) led).setOf g (by unfold scanBound; omega)) (fun _ => rfl) rfl
set_option maxHeartbeats 3200000 in
theorem call_setS {l : Addr} {items : Array Value} {xs : List Str} {Q : Value → Shared → Prop} (hh : A.handled = none) (hl : s.heap.IsList l items ∨ s.heap.IsTuple l items) (hi : PyProof.Rows.StrsAre items.toList xs) (few : xs.length + 1 < scanBound)
    (h : ∀ (h' : Heap) (tk : Nat), SetAt prog w h' s.heap.objs.size xs → (∀ b o, b < s.heap.objs.size → s.heap.get? b = some o → h'.get? b = some o) → Q (.ref s.heap.objs.size) { s with heap := h', toks := tk }) :
    wpAny (model prog w) A (call (.type "set") [.ref l]) Q E s := by
  obtain ⟨_, _, mro⟩ := PySem.F.called_set.mro
  have made := PySem.F.called_set.made
  have sub := PySem.F.called_set.sub
  refine wpAny_call (codeAny_of_tree ?_)
  show wpAny _ _ (callAny (.type "set") _) _ _ _
  refine wpAny_pure ⟨Code.quiet_builtin _ (by decide +kernel), codeAny_builtin PySem.F.entry_type_call ?_⟩
  rw [Around.under_plain (weight_type_call_type "set" [.ref l] []) rfl]
  have c1 := PySem.F.called_set.notType
  have c2 := PySem.F.called_set.canCreate
  have c3 := PySem.F.typeCall_set_1 (.ref l)
  repeat (any_goals (first | wp_step | assumption))
  refine codeAny_mono (code_set_new_1 (.ref l) (E := E) (Q₁ := fun obj sA => ∃ led : Bool, obj = .ref s.heap.objs.size ∧ sA = { s with heap := s.heap.push (bareSet led) }) fun led => ⟨led, rfl, rfl⟩) fun r sA hr => ?_
  cases r with
  | error e => exact hr
  | ok fl =>
    cases fl with
    | next => exact hr.elim
    | brk => exact hr.elim
    | cont => exact hr.elim
    | ret obj =>
      obtain ⟨led, rfl, rfl⟩ := hr
      have gS : (s.heap.push (bareSet led)).get? s.heap.objs.size = some (bareSet led) := Heap.get?_push_size _ rfl
      have tS : Shared.TypeIs { s with heap := s.heap.push (bareSet led) } (.ref s.heap.objs.size) "set" := ⟨_, gS, rfl⟩
      have i1 := PySem.F.called_set.init.lookup
      have i2 := PySem.F.called_set.init.bind (.ref s.heap.objs.size)
      repeat (any_goals (first | wp_step | assumption))
      refine codeAny_mono (codeAny_call_builtin (R := wants (fun r sB => r = .none ∧ ∃ h' tk, sB = { s with heap := h', toks := tk } ∧ SetAt prog w h' s.heap.objs.size xs ∧ (∀ b o, b < s.heap.objs.size → s.heap.get? b = some o → h'.get? b = some o)) E) PySem.F.called_set.init.plain PySem.F.entry_set_init (check_set_init_1 tS ?_)) fun r2 sB hr2 => ?_
      · have len : xs.length = items.size := by rw [← StrsAre.len_eq hi, Array.length_toList]
        have few' : items.size + 1 < scanBound := by rw [← len]; exact few
        have hh3 : A.in1.in1.in1.handled = none := by simp [hh]
        have sz1 : (s.heap.push (bareSet led)).objs.size = s.heap.objs.size + 1 := Heap.size_push ..
        have val : ∀ (i : Nat) (v : Value), items[i]? = some v → ∃ t, v = .str (xs.getD i Str.empty) t := fun i v hv => SS.strs_at hi i v (by rw [Array.getElem?_toList]; exact hv)
        have last : ∀ {G : Array GenState → Array GenState → Prop} {o : Obj} {s' : Shared}, (∀ a b, G a b → b = a) → Moved [s.heap.objs.size, s.heap.objs.size + 1] G { s with heap := (s.heap.push (bareSet led)).push o } s' → SetAt prog w s'.heap s.heap.objs.size xs →
            ∃ h' tk, s' = { s with heap := h', toks := tk } ∧ SetAt prog w h' s.heap.objs.size xs ∧ (∀ b o, b < s.heap.objs.size → s.heap.get? b = some o → h'.get? b = some o) := by
          intro G o s' hG mv sa
          obtain ⟨h2, g2, d2, t2, o2⟩ := s'
          obtain rfl : g2 = s.gens := hG _ _ mv.gens
          obtain rfl : d2 = s.drawn := mv.drawn
          obtain rfl : o2 = s.os := mv.os
          refine ⟨h2, t2, rfl, sa, fun b ob hb e => mv.heap b ob (fun z => ?_) (Heap.get?_push_of_some _ (Heap.get?_push_of_some _ e))⟩
          rcases List.mem_cons.mp z with z | z
          · exact Nat.ne_of_lt hb z
          · exact Nat.ne_of_lt (Nat.lt_succ_of_lt hb) (List.mem_singleton.mp z)
        unfold Builtin.«set.__init__» noKeywords Builtin.Frozenset.updateFrom
        rcases hl with hl | hl
        · obtain ⟨⟨oc, od, oa, os⟩, hol, hc, nl, hd⟩ := hl
          simp only at hc hd
          subst hc hd
          have below : l < s.heap.objs.size := Heap.lt_size hol
          have hol2 : (s.heap.push (bareSet led)).get? l = some { cls := .type "list", dict := od, data := .seq items nl, slots := os } := Heap.get?_push_of_some _ hol
          have s1 := PySem.F.sub_list_set
          have s2 := PySem.F.sub_list_frozenset
          have nd : (Value.type "list" == Value.type "dict") = false := by decide
          have hl1 : (s.heap.push (bareSet led)).IsList l items := ⟨_, hol2, rfl, nl, rfl⟩
          generalize hPI : pyIter = PI
          wp_walk
          subst hPI
          refine wpAny_pyIter_list hl1 (wpAny_bind (wpAny_runValue ?_))
          have nI : l ≠ s.heap.objs.size + 1 := Nat.ne_of_lt (Nat.lt_succ_of_lt below)
          rw [sz1]
          refine fill (s := s) ((Walks.list hh3 _ l nI items).toS) below len few' val ⟨⟨_, by rw [← sz1]; exact Heap.get?_push_size _ rfl, rfl, rfl⟩, hl1.push _⟩ fun s' mv sa => ?_
          show wpAny _ _ _ _ _ _
          obtain ⟨h', tk, rfl, r1, r2⟩ := last (fun _ _ z => z) mv sa
          refine wpAny_pure ?_
          show wpAny _ _ (ret Value.none) _ _ _
          exact wpAny_pure ⟨rfl, h', tk, rfl, r1, r2⟩
        · obtain ⟨⟨oc, od, oa, os⟩, hol, hc, nl, hd⟩ := hl
          simp only at hc hd
          subst hc hd
          have below : l < s.heap.objs.size := Heap.lt_size hol
          have hol2 : (s.heap.push (bareSet led)).get? l = some { cls := .type "tuple", dict := od, data := .seq items nl, slots := os } := Heap.get?_push_of_some _ hol
          have s1 := PySem.F.sub_tuple_set
          have s2 := PySem.F.sub_tuple_frozenset
          have nd : (Value.type "tuple" == Value.type "dict") = false := by decide
          have hl1 : (s.heap.push (bareSet led)).IsTuple l items := ⟨_, hol2, rfl, nl, rfl⟩
          generalize hPI : pyIter = PI
          wp_walk
          subst hPI
          refine wpAny_pyIter_tuple hl1 (wpAny_bind (wpAny_runValue ?_))
          have nI : l ≠ s.heap.objs.size + 1 := Nat.ne_of_lt (Nat.lt_succ_of_lt below)
          rw [sz1]
          refine fill (s := s) ((Walks.tuple hh3 _ l nI items).toS) below len few' val ⟨⟨_, by rw [← sz1]; exact Heap.get?_push_size _ rfl, rfl, rfl⟩, hl1.push _⟩ fun s' mv sa => ?_
          show wpAny _ _ _ _ _ _
          obtain ⟨h', tk, rfl, r1, r2⟩ := last (fun _ _ z => z) mv sa
          refine wpAny_pure ?_
          show wpAny _ _ (ret Value.none) _ _ _
          exact wpAny_pure ⟨rfl, h', tk, rfl, r1, r2⟩
      · cases r2 with
        | error e => exact hr2
        | ok fl2 =>
          cases fl2 with
          | next => exact hr2.elim
          | brk => exact hr2.elim
          | cont => exact hr2.elim
          | ret r =>
            obtain ⟨rfl, h', tk, rfl, r1, r2⟩ := hr2
            repeat (any_goals (first | wp_step | assumption))
            exact h _ _ r1 r2
end
section
variable {X : Cx}
/-- len(set(xs)) of a list or a tuple of texts -/
def tLenSetS (K : PySem.W.Frag) (ta : TE) : TE := fun σ H Q => ta σ H fun x H1 => ∃ (l : Addr) (xs : List Str), x = .ref l ∧ Sq K H1 l (xs.map V.str) ∧ xs.length ≤ 1000 ∧ Q (.int ((once [] xs).length : Nat)) H1
theorem pe_lenSetS {a : Expr} {ta : TE} {p p2 q pos : Pos} (calm : X.calm = true) (hg : Gl X "len") (hm : X.mg "len" = none) (hg2 : Gl X "set") (hm2 : X.mg "set" = none) (ha : PE X a ta)
    (na : starEach [a] X.env = (false, eval a X.env) :: starEach [] X.env := by rfl) : PE X (.Call (.Name "len" p) [.Call (.Name "set" p2) [a] [] q] [] pos) (tLenSetS X.K ta) := by
  refine ⟨fun pins s σ H Q I h => ?_⟩
  refine Call_ (ld_blt I hg hm boot_len (PyProof.Rows.callWith_builtin1 (PyProof.Rows.args_cons ?_ rfl) rfl rfl))
  refine Call_ (ld_blt I hg2 hm2 boot_set (PyProof.Rows.callWith_type1 (PyProof.Rows.args_cons (thn (ha.run pins s σ H _ I h) fun v sA hA => PyProof.Rows.args_nil ?_) na) na rfl))
  obtain ⟨x, H1, I1, r1, l, xs, rfl, hq, few, k⟩ := hA
  cases (show v = Value.ref l from r1)
  have fin : ∀ (items : Array Value), (sA.heap.IsList l items ∨ sA.heap.IsTuple l items) → PyProof.Rows.StrsAre items.toList xs → wpAny (model X.prog X.w) X.A (call (.type "set") [.ref l]) (fun v s' => wpAny (model X.prog X.w) X.A (spliced (backTo pos (starEach [] X.env))) (fun vs s₂ => wpAny (model X.prog X.w) X.A (call (.builtin "len") (v :: vs)) (EP X pins σ Q) X.xe s₂) X.xe s') X.xe sA := by
    intro items hl hi
    refine call_setS (I1.ok.hd calm) hl hi (by unfold scanBound; omega) fun h' tk hS hk => PyProof.Rows.args_nil ?_
    have small := once_le xs []
    obtain ⟨o, es, ep, t, g, ex, dat, _, _, _, hf, hn⟩ := hS
    have I2 : Inv X pins σ H1 { sA with heap := h', toks := tk } := I1.kept fun b o e => hk b o (Heap.lt_size e) e
    rw [List.length_nil] at small
    exact call_len_set g ex dat hf (by rw [hn]; omega) ⟨.int _, H1, I2.tok _, ⟨_, by rw [hn]⟩, k⟩
  rcases hq with hq | hq
  · obtain ⟨its, r, pl, _⟩ := I1.tuple hq
    exact fin its.toArray (.inr pl) (by simpa using strsAre_of r)
  · obtain ⟨its, r, pl, _⟩ := I1.list hq
    exact fin its.toArray (.inl pl.isList) (by simpa using strsAre_of r)
end
end L2.RV
set_option Elab.async false
set_option linter.all false
set_option maxRecDepth 100000
set_option maxHeartbeats 4000000
/-! Comprehensions over a list or a tuple whose parts leave the heap as it is. -/
namespace L2.RV
open PySem PySem.Spec PyProof.Rows
theorem len_sq {K : PySem.W.Frag} {H : Hp} {p : Addr} {xs : List V} (q : Sq K H p xs) : LenV K (.ref p) H xs.length := by
  rcases q with q | q
  · exact .inr ⟨xs, q, rfl⟩
  · exact .inl ⟨xs, q, rfl⟩
theorem ix_sq {K : PySem.W.Frag} {H : Hp} {p : Addr} {xs : List V} {i : Int} {v : V} {Q : VK} (q : Sq K H p xs) (e : atI xs i = some v) (k : Q v H) : rIx K (.ref p) (.int i) H Q := by
  rcases q with q | q
  · exact .inr (.inl ⟨p, xs, i, v, rfl, rfl, q, e, k⟩)
  · exact .inl ⟨p, xs, i, v, rfl, rfl, q, e, k⟩
theorem dec_nat (a b : Nat) : decide (V.int (a : Int) = V.int (b : Int)) = decide (a = b) := by
  by_cases e : a = b
  · subst e; simp
  · rw [decide_eq_false e, decide_eq_false]
    intro z
    injection z with z
    omega
theorem filt_all {α : Type} (xs : List α) : xs.filter (fun _ => true) = xs := List.filter_eq_self.mpr fun _ _ => rfl
theorem wipe_set1 (σ : L2.St) (j : Nat) (v : Option V) : wipe ((wipe σ [j]).set j v) [j] = wipe σ [j] := by
  show ((σ.set j none).set j v).set j none = σ.set j none
  rw [List.set_set, List.set_set]
theorem take_snoc {α : Type} {xs : List α} {i : Nat} {x : α} (h : xs[i]? = some x) : xs.take (i + 1) = xs.take i ++ [x] := by
  rw [List.take_add_one, h]
  rfl
theorem upd_upd {H : Hp} {D : Addr} {u v : HO} : upd (upd H D u) D v = upd H D v := by
  funext b
  by_cases e : b = D
  · subst e
    rw [upd_same, upd_same]
  · rw [upd_ne e, upd_ne e, upd_ne e]
/-- [f(x) for x in xs if p(x)] -/
theorem lc_pure {K : PySem.W.Frag} {ti te : TE} {tt : TT} {j : Nat} {σ : L2.St} {H : Hp} {Q : VK} {a : Addr} {xs : List V} (p : V → Bool) (f : V → V) (hq : Sq K H a xs) (small : xs.length ≤ sizeLine) (hi : ∀ R : V → Hp → Prop, R (.ref a) H → ti σ H R)
    (ht : ∀ x, x ∈ xs → ∀ (H1 : Hp) (Q' : Bool → Hp → Prop), Same H H1 → Q' (p x) H1 → tt ((wipe σ [j]).set j (some x)) H1 Q')
    (he : ∀ x, x ∈ xs → p x = true → ∀ (H1 : Hp) (Q' : VK), Same H H1 → Q' (f x) H1 → te ((wipe σ [j]).set j (some x)) H1 Q')
    (k : ∀ D, H D = none → Q (.ref D) (upd H D (.lst ((xs.filter p).map f)))) {vs : List Nat} (evs : vs = [j] := by rfl) : tLc (iSq K ti) (gName j) tt te vs σ H Q := by
  subst evs
  refine hi _ ⟨a, xs, rfl, hq, fun J wk D hD => ?_⟩
  refine lc_it wk (fun i H' => H' = upd H D (.lst (((xs.take i).filter p).map f))) rfl (fun i H' _ e => ?_) (fun i x H1 H2 lt e y => ?_) (fun H' e => ?_)
  · rw [e]
    exact .of_same (same_new hD)
  · subst e
    obtain ⟨rfl, hx⟩ := y
    have mem := List.mem_of_getElem? hx
    refine ⟨wipe_set1 σ j _, ht x mem _ _ (same_new hD) ?_⟩
    rw [take_snoc hx, List.filter_append, List.map_append]
    cases c : p x with
    | false =>
      rw [if_neg (by decide)]
      have e : [x].filter p = [] := by simp [c]
      rw [e, List.map_nil, List.append_nil]
    | true =>
      rw [if_pos rfl]
      refine he x mem c _ _ (same_new hD) ⟨_, upd_same, ?_, ?_⟩
      · rw [List.length_map]
        have z := List.length_filter_le p (xs.take i)
        rw [List.length_take] at z
        omega
      · have e : [x].filter p = [x] := by simp [c]
        rw [upd_upd, e]
        rfl
  · rw [e, List.take_length]
    exact k D hD
/-- the tuples at bs are these keys -/
def Keyed (H : Hp) (bs : List Addr) (ks : List (List L2.Key)) : Prop := bs.length = ks.length ∧ ∀ (i : Nat) (b : Addr) (k : List L2.Key), bs[i]? = some b → ks[i]? = some k → H b = some (.tup (k.map kV))
theorem Keyed.same {H H' : Hp} {bs : List Addr} {ks : List (List L2.Key)} (z : Keyed H bs ks) (s : Same H H') : Keyed H' bs ks := ⟨z.1, fun i b k hb hk => s _ _ (z.2 i b k hb hk)⟩
theorem mergeT_snoc (acc more : List (List L2.Key × V)) (kv : List L2.Key × V) : mergeT acc (more ++ [kv]) = putK (mergeT acc more) kv.1 kv.2 := by
  unfold mergeT
  rw [List.foldl_append]
  rfl
theorem mergeT_new : ∀ (more acc : List (List L2.Key × V)), (more.map (·.1)).Nodup → (∀ kv ∈ more, ∀ kw ∈ acc, kw.1 ≠ kv.1) → mergeT acc more = acc ++ more
  | [], acc, _, _ => (List.append_nil acc).symm
  | kv :: r, acc, nd, no => by
    rw [List.map_cons, List.nodup_cons] at nd
    have e : putK acc kv.1 kv.2 = acc ++ [kv] := by
      refine putK_new kv.2 ?_
      cases c : valV acc kv.1 with
      | none => rfl
      | some v =>
        unfold valV at c
        obtain ⟨pr, hf, _⟩ := Option.map_eq_some_iff.mp c
        have same := List.find?_some hf
        exact absurd (by simpa using same) (no kv List.mem_cons_self pr (List.mem_of_find?_eq_some hf))
    show mergeT (putK acc kv.1 kv.2) r = _
    rw [e, mergeT_new r _ nd.2, List.append_assoc]
    · rfl
    · intro kw hw ku hu
      rcases List.mem_append.mp hu with z | z
      · exact no kw (List.mem_cons_of_mem _ hw) ku z
      · rw [List.mem_singleton.mp z]
        intro y
        exact nd.1 (List.mem_map.mpr ⟨kw, hw, y.symm⟩)
/-- {x: f(x) for x in xs if p(x)}, the xs tuples -/
theorem dc_pure {K : PySem.W.Frag} {ti tv : TE} {tt : TT} {j : Nat} {σ : L2.St} {H : Hp} {Q : VK} {a : Addr} {bs : List Addr} {ks : List (List L2.Key)} (p : List L2.Key → Bool) (f : List L2.Key → V) (hq : Sq K H a (bs.map V.ref)) (kd : Keyed H bs ks) (small : bs.length ≤ sizeLine) (hj : j < σ.length) (hi : ∀ R : V → Hp → Prop, R (.ref a) H → ti σ H R)
    (ht : ∀ b k, k ∈ ks → H b = some (.tup (k.map kV)) → ∀ (H1 : Hp) (Q' : Bool → Hp → Prop), Same H H1 → Q' (p k) H1 → tt ((wipe σ [j]).set j (some (.ref b))) H1 Q')
    (hv : ∀ b k, k ∈ ks → H b = some (.tup (k.map kV)) → p k = true → ∀ (H1 : Hp) (Q' : VK), Same H H1 → Q' (f k) H1 → tv ((wipe σ [j]).set j (some (.ref b))) H1 Q')
    (k : ∀ D, H D = none → Q (.ref D) (upd H D (.dT (mergeT [] ((ks.filter p).map fun k => (k, f k)))))) {vs : List Nat} (evs : vs = [j] := by rfl) : tDcT (iSq K ti) (gName j) tt (tVar j) tv vs σ H Q := by
  subst evs
  refine hi _ ⟨a, bs.map V.ref, rfl, hq, fun J wk D hD => ?_⟩
  refine dcT_it wk (fun i H' => H' = upd H D (.dT (mergeT [] (((ks.take i).filter p).map fun k => (k, f k))))) rfl (fun i H' _ e => ?_) (fun i x H1 H2 lt e y => ?_) (fun H' e => ?_)
  · rw [e]
    exact .of_same (same_new hD)
  · subst e
    obtain ⟨rfl, hx⟩ := y
    obtain ⟨b, hb, rfl⟩ : ∃ b, bs[i]? = some b ∧ V.ref b = x := by
      rw [List.getElem?_map] at hx
      exact Option.map_eq_some_iff.mp hx
    have lb := (List.getElem?_eq_some_iff.mp hb).1
    have lk : i < ks.length := kd.1 ▸ lb
    have hk : ks[i]? = some ks[i] := List.getElem?_eq_getElem lk
    have hbk := kd.2 i b _ hb hk
    have mem : ks[i] ∈ ks := List.getElem_mem lk
    have lw : j < (wipe σ [j]).length := by rw [wipe_length]; exact hj
    refine ⟨wipe_set1 σ j _, ht b _ mem hbk _ _ (same_new hD) ?_⟩
    rw [take_snoc hk, List.filter_append, List.map_append]
    cases c : p ks[i] with
    | false =>
      rw [if_neg (by decide)]
      have e : [ks[i]].filter p = [] := by simp [c]
      rw [e, List.map_nil, List.append_nil]
    | true =>
      rw [if_pos rfl]
      refine ⟨.ref b, List.getElem?_set_self lw, hv b _ mem hbk c _ _ (same_new hD) ⟨_, DPut.t upd_same (same_new hD _ _ hbk) ?_, ?_⟩⟩
      · have z := length_mergeT (((ks.take i).filter p).map fun k => (k, f k)) []
        have y := List.length_filter_le p (ks.take i)
        rw [List.length_take] at y
        rw [List.length_map, List.length_nil] at z
        omega
      · have e : [ks[i]].filter p = [ks[i]] := by simp [c]
        rw [upd_upd, e]
        show _ = upd H D (.dT (mergeT [] (_ ++ [(ks[i], f ks[i])])))
        rw [mergeT_snoc]
  · have e2 : (bs.map V.ref).length = ks.length := by rw [List.length_map]; exact kd.1
    rw [e, e2, List.take_length]
    exact k D hD
end L2.RV
set_option Elab.async false
set_option linter.all false
set_option maxRecDepth 100000
/-! One layer of a transformer taken off, so that the next one stands at the head (with_reducible refine). -/
namespace L2.RV
open PySem PySem.Spec PyProof.Rows
section
variable {a b rest : L2.TS} {D : Ends} {σ σ' : L2.St} {H : Hp} {Q : VK} {ta tb te : TE} {t u : TT} {B : Bool → Hp → Prop} {r : List V → Hp → VK → Prop} {r2 : R2} {S : L2.St → Hp → Prop}
theorem yesU {A B : Hp → Prop} (h : A H) : tYes σ H fun b H3 => if b = true then A H3 else B H3 := by
  show if true = true then A H else B H
  rw [if_pos rfl]
  exact h
theorem seqU (h : a { D with nx := b D } σ H) : tSeq a b D σ H := h
theorem nxU {f : L2.St → Hp → Prop} {rt : VK} {bk ct : L2.St → Hp → Prop} (h : f σ H) : tNext { nx := f, rt := rt, bk := bk, ct := ct } σ H := h
theorem retU (h : te σ H fun v H' => D.rt v H') : tRet te D σ H := h
theorem ifU (h : t σ H fun c H1 => if c = true then a D σ H1 else b D σ H1) : tIfS t a b D σ H := h
theorem setU {i : Nat} (h : te σ H fun v H1 => D.nx (σ.set i (some v)) H1) : tAsg te (gName i) D σ H := h
theorem setsU {i : Nat} (h : te σ H fun v H1 => rest D (σ.set i (some v)) H1) : tSeq (tAsg te (gName i)) rest D σ H := h
theorem andvU (h : ta σ H fun x H1 => ∃ c, x = .bl c ∧ if c = true then tb σ H1 Q else Q (.bl false) H1) : tAndV ta tb σ H Q := h
theorem orvU (h : ta σ H fun x H1 => ∃ c, x = .bl c ∧ if c = true then Q (.bl true) H1 else tb σ H1 Q) : tOrV ta tb σ H Q := h
theorem cb1U (h : ta σ H fun v H1 => r [v] H1 Q) : tCB r (tCons ta tNil) σ H Q := h
theorem call1U {sp : Sp} {E : XK} (h : ta σ H fun v H1 => sp [v] H1 Q E) : tCall sp [] E (tCons ta tNil) σ H Q := h
theorem opU (h : ta σ H fun x H1 => tb σ H1 fun y H2 => r2 x y H2 Q) : tOp r2 ta tb σ H Q := h
theorem testU (h : te σ H fun x H' => ∃ k, x = .bl k ∧ B k H') : tTest te σ H B := h
theorem bU (h : te σ H fun x H1 => ∃ c, x = .bl c ∧ B c H1) : tB te σ H B := h
theorem torU (h : t σ H fun c H1 => if c = true then B true H1 else u σ H1 B) : tOr t u σ H B := h
theorem tandU (h : t σ H fun c H1 => if c = true then u σ H1 B else B false H1) : tAnd t u σ H B := h
theorem tnotU (h : t σ H fun c H1 => B (!c) H1) : tNot t σ H B := h
theorem lockU {d : Addr} {ob : HO} (e : H d = some ob) (m : Mut (some ob)) (h : ∀ od, te σ (upd H d (.frz od ob)) fun v H' => H' d = some (.frz od ob) ∧ Q v (upd H' d ob)) : tLockE te σ H Q := ⟨d, ob, e, m, h⟩
theorem stU {p : L2.St → Prop} (e : σ = σ') (h : p σ') : p σ := e ▸ h
theorem fldU {K : PySem.W.Frag} {f : Str} (h : ta σ H fun x H1 => ∃ a C dx fs v, x = .ref a ∧ H1 a = some (.ins C dx fs) ∧ Cls K C ∧ NoAttr K C f ∧ fs.lookup f = some v ∧ Q v H1) : tFld K ta f σ H Q := h
theorem sfldU {K : PySem.W.Frag} {f : Str} {tv : TE} (h : tv σ H fun y H1 => ta σ H1 fun x H2 => ∃ a C dx fs, x = .ref a ∧ H2 a = some (.ins C dx fs) ∧ Cls K C ∧ NoAttr K C f ∧ fs.length < 1000 ∧ D.nx σ (upd H2 a (.ins C dx (putF f y fs)))) : sFld K ta tv f D σ H := h
theorem sfldsU {K : PySem.W.Frag} {f : Str} {tv : TE} (h : tv σ H fun y H1 => ta σ H1 fun x H2 => ∃ a C dx fs, x = .ref a ∧ H2 a = some (.ins C dx fs) ∧ Cls K C ∧ NoAttr K C f ∧ fs.length < 1000 ∧ rest D σ (upd H2 a (.ins C dx (putF f y fs)))) : tSeq (sFld K ta tv f) rest D σ H := h
theorem exprsU (h : te σ H fun _ H1 => rest D σ H1) : tSeq (tDrop te) rest D σ H := h
end
end L2.RV
set_option Elab.async false
set_option linter.all false
set_option maxRecDepth 100000
set_option maxHeartbeats 4000000
/-! Keys of shapes. -/
namespace L2.K20
open PySem PySem.Spec PyProof.Rows L2.RV
/-- are_keys(value), of texts -/
def areKeys (xs : List Str) : Bool := decide (1 ≤ (xs.length : Int)) && (decide ((xs.length : Int) ≤ 6) && (xs.all isName && decide ((once [] xs).length = xs.length)))
def spAreKeys (K : PySem.W.Frag) : Sp := fun vs H Q _ => ∃ a xs, vs = [.ref a] ∧ Sq K H a (xs.map V.str) ∧ xs.length ≤ 1000 ∧ (∀ x ∈ xs, x.length ≤ sizeLine) ∧ ∀ H', Same H H' → Q (.bl (areKeys xs)) H'
theorem sq_ty {K : PySem.W.Frag} {H : Hp} {a : Addr} {xs : List V} (q : Sq K H a xs) : ∃ n, TyX K H (.ref a) (.type n) ∧ PySem.W.kitAny K (.type n) [.type "list", .type "tuple"] = some true := by
  have kt : PySem.W.kitAny K (.type "tuple") [.type "list", .type "tuple"] = some true := by
    have e1 : PySem.W.kitOne K (.type "tuple") (.type "list") = some false := kit_ty (by decide +kernel : kitB "tuple" "list" = some false)
    have e2 : PySem.W.kitOne K (.type "tuple") (.type "tuple") = some true := kit_ty (by decide +kernel : kitB "tuple" "tuple" = some true)
    unfold PySem.W.kitAny
    rw [e1]
    unfold PySem.W.kitAny
    rw [e2]
  have kl : PySem.W.kitAny K (.type "list") [.type "list", .type "tuple"] = some true := by
    have e1 : PySem.W.kitOne K (.type "list") (.type "list") = some true := kit_ty (by decide +kernel : kitB "list" "list" = some true)
    unfold PySem.W.kitAny
    rw [e1]
  rcases q with q | q
  · rcases q with (e | ⟨o, e⟩) | ⟨o, its, n, e, c, _⟩
    · exact ⟨"tuple", .base (.tup e), kt⟩
    · exact ⟨"tuple", .fTuple e, kt⟩
    · exact ⟨"tuple", .kTuple e c, kt⟩
  · rcases q with (e | ⟨o, e⟩) | ⟨o, its, n, e, c, _⟩
    · exact ⟨"list", .base (.lst e), kl⟩
    · exact ⟨"list", .base (.frz e), kl⟩
    · exact ⟨"list", .kList e c, kl⟩
section
variable {P : Program} {w : World} {K : PySem.W.Frag} {mg : Str → Option Value} {base : Heap} {fd : FuncData}
theorem ok_are_keys (T : Top w K mg) (D_is_name : Def P w K mg base "is_name" 1 ["value"] spName) (F : Fn K "are_keys" s_are_keys fd) : FnOk P w K mg base CX0 2 (He.ga K "are_keys") fd ["value"] (spAreKeys K) := by
  refine F.ok sc_are_keys (fun vs H Q E h => ?_) (fun cdv A outer s H vs Q E hr h => ?_)
  · obtain ⟨a, xs, rfl, _⟩ := h
    rfl
  · obtain ⟨a, xs, rfl, q, few, short, k⟩ := h
    have hu := hr.units
    refine ⟨_, PSs.nox (pss_cons (ps_if (PW.pt (pw_or (pt_not (pt_val (pe_callB call_isiT rfl T.n_isinstance (by decide +kernel) (pa_cons (pv 0) (pa_cons (pe_tup (pa_cons (pe_bltn (v := .ty "list") (u := .type "list") rfl T.n_list (by decide +kernel) rfl) (pa_cons (pe_bltn (v := .ty "tuple") (u := .type "tuple") rfl T.n_tuple (by decide +kernel) rfl) pa_nil))) pa_nil))))) (pw_or1 (pt_not (pt_chain op_le op_le pe_int (pe_callB (call_lenK (K := K) rfl) rfl T.n_len (by decide +kernel) (pa_cons (pv 0) pa_nil)) (pe_globE rfl T.i_MOST_KEYS)))))) (pss_one (ps_ret pe_bl)) pss_nil)
      (pss_one (ps_ret (pe_and (pe_callB (cr_all rfl) rfl T.n_all (by decide +kernel) (pa_cons (pe_lc (own := [("key", 1)]) (g := gName 1) (tt := tYes) (by rfl) sc_are_keys.nd (pi_sqK (K := K) rfl (pv 0)) (blkOk_by (own := [("key", 1)]) (N := ["value", "key"]) (sc := defScope s_are_keys) (by decide +kernel)) (fun _ _ _ _ _ => by exact (pg_name (i := 1) sc_are_keys.nd rfl (by first | exact Or.inl rfl | exact Or.inr rfl))) (fun _ _ _ _ _ => by exact pts_nil) (fun _ _ _ _ _ => by exact (pe_callD D_is_name (hr.mono (by decide)) rfl (pa_cons (pv 1) pa_nil)))) pa_nil)) (pe_one (pe_cmpR (op_sameK (K := K) rfl hu) (pe_lenSetS rfl rfl T.n_len rfl T.n_set (pv 0)) (pe_callB (call_lenK (K := K) rfl) rfl T.n_len (by decide +kernel) (pa_cons (pv 0) pa_nil)) (nomark _))))))), ?_⟩
    refine ⟨_, rfl, (by decide : (2 : Nat) ≤ sizeLine), fun tp ntp => ?_⟩
    have s1 := same_new (o := .tup [.ty "list", .ty "tuple"]) ntp
    have q1 := q.keep (SqKeep.of_same s1)
    obtain ⟨n, ty, kt⟩ := sq_ty q1
    refine ⟨_, tp, [.ty "list", .ty "tuple"], .type n, [.type "list", .type "tuple"], true, rfl, upd_same, .cons (.ty "list") (.cons (.ty "tuple") .nil), ty, kt, _, rfl, ?_⟩
    have k1 : ∀ H', Same (upd H tp (.tup [.ty "list", .ty "tuple"])) H' → Q (.bl (areKeys xs)) H' := fun H' s => k H' (s1.trans s)
    generalize upd H tp (.tup [.ty "list", .ty "tuple"]) = H1 at q1 k1 ⊢
    clear k ty s1 q ntp
    refine (if_neg (by decide : ¬ ((!true) = true))).mpr ?_
    refine ⟨_, rfl, _, _, rfl, len_sq q1, ?_⟩
    refine ⟨_, _, rfl, rfl, _, rfl, ?_⟩
    rw [List.length_map]
    unfold areKeys at k1
    cases c1 : decide (1 ≤ (xs.length : Int)) with
    | false =>
      rw [c1] at k1
      exact ⟨_, rfl, k1 _ fun _ _ z => z⟩
    | true =>
      refine ⟨_, _, rfl, rfl, _, rfl, ?_⟩
      rw [c1, Bool.true_and] at k1
      cases c2 : decide ((xs.length : Int) ≤ 6) with
      | false =>
        rw [c2] at k1
        exact k1 _ fun _ _ z => z
      | true =>
        rw [c2, Bool.true_and] at k1
        refine (if_neg (by decide : ¬ ((!true) = true))).mpr ?_
        with_reducible refine nxU ?_
        with_reducible refine retU ?_
        with_reducible refine andvU ?_
        with_reducible refine cb1U ?_
        refine lc_pure (j := 1) (fun _ => true) (fun v => match v with | .str x => .bl (isName x) | _ => .non) q1 (by rw [List.length_map, sizeLine_eq]; omega) (fun R r => ⟨_, rfl, r⟩) (fun x hx H2 Q' s q' => q') (fun x hx _ H2 Q' s q' => ?_) fun D hD => ?_
        · obtain ⟨y, hy, rfl⟩ := List.mem_map.mp hx
          exact ⟨_, rfl, y, rfl, short y hy, q'⟩
        · have e : ((xs.map V.str).filter (fun _ => true)).map (fun v => match v with | .str x => V.bl (isName x) | _ => .non) = (xs.map isName).map V.bl := by
            rw [filt_all, List.map_map, List.map_map]
            rfl
          rw [e]
          have s2 := same_new (o := .lst ((xs.map isName).map V.bl)) hD
          have q2 := q1.keep (SqKeep.of_same s2)
          refine ⟨D, _, rfl, .inl (.inl upd_same), _, rfl, ?_⟩
          have e2 : (xs.map isName).all id = xs.all isName := by
            rw [List.all_map]
            rfl
          rw [e2]
          cases c3 : xs.all isName with
          | false =>
            rw [c3] at k1
            exact k1 _ s2
          | true =>
            rw [c3, Bool.true_and] at k1
            refine ⟨_, rfl, a, xs, rfl, q2, few, _, rfl, _, _, rfl, len_sq q2, .inl ⟨rfl, ?_⟩⟩
            rw [List.length_map, dec_nat]
            exact k1 _ s2
end
end L2.K20
set_option Elab.async false
set_option linter.all false
set_option maxRecDepth 100000
set_option maxHeartbeats 4000000
/-! [(x, y) for x in xs for y in range(d)]; {p: i for i, p in enumerate(ps)}. -/
namespace L2.RV
open PySem PySem.Spec PyProof.Rows
/-- the tuples that stand at bs -/
def Tups (H : Hp) (bs : List Addr) (vs : List (List V)) : Prop := bs.length = vs.length ∧ ∀ (i : Nat) (b : Addr) (v : List V), bs[i]? = some b → vs[i]? = some v → H b = some (.tup v)
theorem Tups.keep {H H' : Hp} {bs : List Addr} {vs : List (List V)} (z : Tups H bs vs) (s : ∀ b xs, H b = some (.tup xs) → H' b = some (.tup xs)) : Tups H' bs vs := ⟨z.1, fun i b k hb hk => s _ _ (z.2 i b k hb hk)⟩
theorem Tups.snoc {H : Hp} {bs : List Addr} {vs : List (List V)} {b : Addr} {v : List V} (z : Tups H bs vs) (e : H b = some (.tup v)) : Tups H (bs ++ [b]) (vs ++ [v]) := by
  refine ⟨by rw [List.length_append, List.length_append, z.1]; rfl, fun i c u hc hu => ?_⟩
  rcases Nat.lt_or_ge i bs.length with lt | ge
  · rw [List.getElem?_append_left lt] at hc
    rw [List.getElem?_append_left (z.1 ▸ lt)] at hu
    exact z.2 i c u hc hu
  · rw [List.getElem?_append_right ge] at hc
    rw [List.getElem?_append_right (z.1 ▸ ge)] at hu
    have i0 : i - bs.length = 0 := by
      rcases Nat.eq_zero_or_pos (i - bs.length) with y | y
      · exact y
      · rw [List.getElem?_eq_none (show [b].length ≤ i - bs.length from y)] at hc
        cases hc
    rw [i0] at hc
    have i1 : i - vs.length = 0 := by rw [← z.1]; exact i0
    rw [i1] at hu
    cases hc
    cases hu
    exact e
def pairsV (xs : List Str) (d : Nat) : List (List V) := xs.flatMap fun x => (List.range d).map fun (n : Nat) => [V.str x, V.int n]
theorem pairsV_snoc (xs : List Str) (d : Nat) (x : Str) : pairsV (xs ++ [x]) d = pairsV xs d ++ (List.range d).map fun (n : Nat) => [V.str x, V.int n] := by
  unfold pairsV
  rw [List.flatMap_append]
  simp
theorem length_pairsV : ∀ (xs : List Str) (d : Nat), (pairsV xs d).length = xs.length * d
  | [], d => by simp [pairsV]
  | x :: r, d => by
    have z := length_pairsV r d
    unfold pairsV at z ⊢
    rw [List.flatMap_cons, List.length_append, z, List.length_map, List.length_range, List.length_cons, Nat.succ_mul]
    omega
theorem wipe_idem (σ : L2.St) (i j : Nat) (hij : i ≠ j) (v w : Option V) : wipe ((((σ.set j none).set i none).set i v).set j w) [i, j] = wipe σ [i, j] := by
  show (((((σ.set j none).set i none).set i v).set j w).set j none).set i none = (σ.set j none).set i none
  rw [List.set_set, List.set_set]
  have c : ((σ.set j none).set i v).set j none = ((σ.set j none).set j none).set i v := (List.set_comm _ _ hij)
  rw [c, List.set_set, List.set_set]
/-- the comprehension of pairs: xs texts, behind it range(d) -/
theorem lc_pairs {K : PySem.W.Frag} {ti : TE} {tn : TA} {i j : Nat} {σ : L2.St} {H : Hp} {Q : VK} {a : Addr} {xs : List Str} {d : Nat} (hij : i ≠ j) (li : i < σ.length) (lj : j < σ.length) (hq : Sq K H a (xs.map V.str)) (small : xs.length * d ≤ 1000) (hd : d < 1000) (hi : ∀ R : V → Hp → Prop, R (.ref a) H → ti σ H R)
    (hn : ∀ (v : V) (H1 : Hp) (R : List V → Hp → Prop), R [.int d] H1 → tn ((wipe σ [i, j]).set i (some v)) H1 R)
    (k : ∀ D bs H', Same H H' → H D = none → H' D = some (.lst (bs.map V.ref)) → Tups H' bs (pairsV xs d) → Q (.ref D) H')
    {vs vs1 : List Nat} (e1 : vs = [i, j] := by rfl) (e2 : vs1 = [j] := by rfl) :
    tLc2 (iSq K ti) (gName i) tYes (iRng1 tn) (gName j) tYes (tTup (tCons (tVar i) (tCons (tVar j) tNil))) vs vs1 σ H Q := by
  subst e1 e2
  refine hi _ ⟨a, xs.map V.str, rfl, hq, fun J wk D hD => ?_⟩
  have step0 : ∀ {bs : List Addr} {H' : Hp}, Same H H' → ∀ y, Same H (upd H' D y) := fun s y b o e => by
    have ne : b ≠ D := ne_of_none e hD
    exact (upd_ne ne).trans (s b o e)
  have all_len : (xs.map V.str).length = xs.length := List.length_map ..
  let Pv : Nat → Hp → Prop := fun n H' => ∃ bs, H' D = some (.lst (bs.map V.ref)) ∧ Same H H' ∧ Tups H' bs (pairsV (xs.take n) d)
  refine ⟨fun n m H' => m + n = xs.length ∧ Pv n H', ⟨xs.length, by omega, [], upd_same, same_new hD, rfl, fun i b v hb _ => by simp at hb⟩, fun n m H' q => ?_⟩
  obtain ⟨em, bs, hbs, sm, tu⟩ := q
  have gg : SqKeep K a (xs.map V.str) H H' := .of_same sm
  by_cases lt : n < xs.length
  · refine .inr ⟨wk.goes n H' (by rw [all_len]; exact lt) gg, Pv (n + 1), fun H2 p => ⟨m - 1, by omega, by omega, p⟩, fun v H2 y => ?_⟩
    obtain ⟨rfl, hx⟩ := wk.yields n H' v H2 (by rw [all_len]; exact lt) gg y
    rw [List.getElem?_map, List.getElem?_eq_getElem lt] at hx
    cases hx
    refine ⟨?_, ?_⟩
    · show wipe (((σ.set j none).set i none).set i _) [i, j] = wipe σ [i, j]
      show ((((σ.set j none).set i none).set i _).set j none).set i none = (σ.set j none).set i none
      rw [List.set_set, List.set_comm _ _ hij, List.set_set, List.set_set]
    · with_reducible refine yesU ?_
      refine hn _ _ _ ⟨d, rfl, by omega, by omega, ?_⟩
      refine ⟨fun y z H3 => z + y = d ∧ ∃ cs, H3 D = some (.lst (cs.map V.ref)) ∧ Same H H3 ∧ Tups H3 cs (pairsV (xs.take n) d ++ (List.range y).map fun (t : Nat) => [V.str xs[n], V.int t]), ⟨d, by omega, bs, hbs, sm, by simpa using tu⟩, fun y z H3 q => ?_⟩
      obtain ⟨ez, cs, hcs, sm3, tu3⟩ := q
      by_cases ly : y < d
      · refine .inr ⟨by show y < ((d : Int)).toNat; omega, fun H4 => ∃ cs, H4 D = some (.lst (cs.map V.ref)) ∧ Same H H4 ∧ Tups H4 cs (pairsV (xs.take n) d ++ (List.range (y + 1)).map fun (t : Nat) => [V.str xs[n], V.int t]), fun H4 p => ⟨z - 1, by omega, by omega, p⟩, fun v H4 yy => ?_⟩
        obtain ⟨rfl, rfl⟩ := yy
        have w3 : wipe ((wipe ((wipe σ [i, j]).set i (some (V.str xs[n]))) [j]).set j (some (V.int (0 + (y : Nat))))) [j] = wipe ((wipe σ [i, j]).set i (some (V.str xs[n]))) [j] := wipe_set1 _ j _
        refine ⟨w3, ?_⟩
        with_reducible refine yesU ?_
        have li' : i < (wipe σ [i, j]).length := by rw [wipe_length]; exact li
        have lj' : j < (((wipe σ [i, j]).set i (some (V.str xs[n]))).set j none).length := by rw [List.length_set, List.length_set, wipe_length]; exact lj
        have gi : (((((wipe σ [i, j]).set i (some (V.str xs[n]))).set j none).set j (some (V.int (0 + (y : Nat)))))[i]?) = some (some (V.str xs[n])) := by
          rw [List.getElem?_set_ne hij.symm, List.getElem?_set_ne hij.symm, List.getElem?_set_self li']
        have gj : (((((wipe σ [i, j]).set i (some (V.str xs[n]))).set j none).set j (some (V.int (0 + (y : Nat)))))[j]?) = some (some (V.int (0 + (y : Nat)))) := List.getElem?_set_self lj'
        refine ⟨_, gi, _, gj, by show 2 ≤ sizeLine; decide, fun p np => ?_⟩
        have nD : D ≠ p := fun z => by rw [z, np] at hcs; cases hcs
        refine ⟨cs.map V.ref, (upd_ne nD).trans hcs, ?_, cs ++ [p], ?_, ?_, ?_⟩
        · have z := tu3.1
          rw [List.length_append, length_pairsV, List.length_map, List.length_range, List.length_take] at z
          rw [List.length_map, z, sizeLine_eq]
          have le : min n xs.length * d + d ≤ xs.length * d := by
            have : (min n xs.length + 1) * d ≤ xs.length * d := Nat.mul_le_mul_right d (by omega)
            rw [Nat.succ_mul] at this
            exact this
          omega
        · rw [upd_same, List.map_append]
          rfl
        · refine fun b o e => ?_
          have n1 : b ≠ D := ne_of_none e hD
          have n2 : b ≠ p := fun z => by
            have := sm3 b o e
            rw [z, np] at this
            cases this
          exact (upd_ne n1).trans ((upd_ne n2).trans (sm3 b o e))
        · rw [List.range_succ, List.map_append, ← List.append_assoc]
          refine Tups.snoc (tu3.keep fun b us e => ?_) ?_
          · have n1 : b ≠ D := fun z => by rw [z, hcs] at e; cases e
            have n2 : b ≠ p := fun z => by rw [z, np] at e; cases e
            exact (upd_ne n1).trans ((upd_ne n2).trans e)
          · refine (upd_ne (Ne.symm nD)).trans ?_
            rw [upd_same]
            have e0 : (0 : Int) + ((y : Nat) : Int) = (y : Int) := by omega
            rw [e0]
      · obtain rfl : y = d := by omega
        refine .inl ⟨by show ((y : Int)).toNat ≤ y; omega, cs, hcs, sm3, ?_⟩
        rw [take_snoc (List.getElem?_eq_getElem lt), pairsV_snoc]
        exact tu3
  · obtain rfl : n = xs.length := by omega
    rw [List.take_length] at tu
    refine .inl ⟨?_, k D bs H' sm hD hbs tu⟩
    have z := wk.stops H' gg
    rw [all_len] at z
    exact z
/-- {p: i for i, p in enumerate(ps)} -/
theorem dc_index {K : PySem.W.Frag} {ta : TA} {i j : Nat} {σ : L2.St} {H : Hp} {Q : VK} {a : Addr} {bs : List Addr} {ks : List (List L2.Key)} (hij : i ≠ j) (li : i < σ.length) (lj : j < σ.length) (hq : Sq K H a (bs.map V.ref)) (kd : Keyed H bs ks) (nd : ks.Nodup) (small : bs.length ≤ 1000) (hi : ∀ R : List V → Hp → Prop, R [.ref a] H → ta σ H R)
    (k : ∀ D H', Same H H' → H D = none → H' D = some (.dT (ks.zipIdx.map fun z => (z.1, V.int z.2))) → Q (.ref D) H') {vs : List Nat} (evs : vs = [i, j] := by rfl) :
    tDcT (iEnumSq K ta) (gTup K 2 (gCons (gName i) (gCons (gName j) gNil))) tYes (tVar j) (tVar i) vs σ H Q := by
  subst evs
  refine hi _ ⟨a, bs.map V.ref, rfl, hq, fun J wk D hD => ?_⟩
  have lb : (bs.map V.ref).length = bs.length := List.length_map ..
  refine dcT_it wk (fun n H' => H' D = some (.dT ((ks.take n).zipIdx.map fun z => (z.1, V.int z.2))) ∧ Same H H') ⟨by rw [List.take_zero]; exact upd_same, same_new hD⟩ (fun n H' _ e => .of_same e.2) (fun n x H1 H2 lt e y => ?_) (fun H' e => ?_)
  · obtain ⟨hDd, sm⟩ := e
    obtain ⟨T, x0, y0, rfl, nT, rfl, ex, ey⟩ := y
    cases ex
    change (bs.map V.ref)[n]? = some y0 at ey
    rw [List.getElem?_map] at ey
    obtain ⟨b, hb, rfl⟩ := Option.map_eq_some_iff.mp ey
    have lk : n < ks.length := by rw [← kd.1]; exact (List.getElem?_eq_some_iff.mp hb).1
    have hk : ks[n]? = some ks[n] := List.getElem?_eq_getElem lk
    have hbk := kd.2 n b _ hb hk
    have nD : D ≠ T := fun z => by rw [z, nT] at hDd; cases hDd
    have smT : Same H (upd H1 T (.tup [.int (n : Nat), .ref b])) := sm.trans (same_new nT)
    have li' : i < (wipe σ [i, j]).length := by rw [wipe_length]; exact li
    have lj' : j < ((wipe σ [i, j]).set i (some (.int (n : Nat)))).length := by rw [List.length_set, wipe_length]; exact lj
    have gi : ((((wipe σ [i, j]).set i (some (.int (n : Nat)))).set j (some (V.ref b)))[i]?) = some (some (.int (n : Nat))) := by
      rw [List.getElem?_set_ne hij.symm, List.getElem?_set_self li']
    have gj : ((((wipe σ [i, j]).set i (some (.int (n : Nat)))).set j (some (V.ref b)))[j]?) = some (some (.ref b)) := List.getElem?_set_self lj'
    refine ⟨T, [.int (n : Nat), .ref b], rfl, SqT.of upd_same, rfl, _, _, rfl, _, _, rfl, rfl, wipe_idem σ i j hij _ _, ?_⟩
    with_reducible refine yesU ?_
    refine ⟨_, gj, _, gi, _, DPut.t ((upd_ne nD).trans hDd) (smT _ _ hbk) ?_, ?_, fun c o e => ?_⟩
    · rw [List.length_map, List.length_zipIdx, List.length_take, sizeLine_eq]
      omega
    · rw [upd_same, take_snoc hk, List.zipIdx_append, List.map_append]
      have fresh : valV ((ks.take n).zipIdx.map fun z => (z.1, V.int z.2)) ks[n] = none := by
        cases c : valV ((ks.take n).zipIdx.map fun z => (z.1, V.int z.2)) ks[n] with
        | none => rfl
        | some v =>
          unfold valV at c
          obtain ⟨pr, hf, _⟩ := Option.map_eq_some_iff.mp c
          have h1 := List.mem_of_find?_eq_some hf
          have h2 := List.find?_some hf
          obtain ⟨z, hz, rfl⟩ := List.mem_map.mp h1
          have h3 : z.1 = ks[n] := by simpa using h2
          have h4 : z.1 ∈ ks.take n := by
            have := List.mem_map_of_mem (f := Prod.fst) hz
            rw [List.zipIdx_map_fst] at this
            exact this
          rw [h3] at h4
          obtain ⟨m, hm⟩ := List.mem_iff_getElem?.mp h4
          rw [List.getElem?_take] at hm
          split at hm
          · rename_i c
            obtain ⟨hm1, hm2⟩ := List.getElem?_eq_some_iff.mp hm
            exact absurd hm2 (List.pairwise_iff_getElem.mp nd m n hm1 lk c)
          · cases hm
      have e1 := putK_new (V.int (n : Nat)) fresh
      rw [e1]
      have e2 : (ks.take n).length = n := by rw [List.length_take]; omega
      rw [e2, Nat.zero_add]
      rfl
    · have n1 : c ≠ D := ne_of_none e hD
      exact (upd_ne n1).trans (smT c o e)
  · obtain ⟨h1, h2⟩ := e
    have e2 : (bs.map V.ref).length = ks.length := by rw [lb]; exact kd.1
    rw [e2, List.take_length] at h1
    exact k D H' h2 hD h1
end L2.RV
set_option Elab.async false
set_option linter.all false
set_option maxRecDepth 100000
set_option maxHeartbeats 4000000
/-! Shapes made. -/
namespace L2.K20
open PySem PySem.Spec PyProof.Rows L2.RV
theorem once_all : ∀ (xs acc : List Str), (once acc xs).length = acc.length + xs.length → xs.Nodup ∧ ∀ x ∈ xs, x ∉ acc
  | [], acc, _ => ⟨.nil, fun _ h => absurd h List.not_mem_nil⟩
  | x :: r, acc, h => by
    by_cases c : acc.any (· == x) = true
    · have z := once_le r acc
      have e : once acc (x :: r) = once acc r := by
        show once (if acc.any (· == x) then acc else acc ++ [x]) r = _
        rw [if_pos c]
      rw [e, List.length_cons] at h
      omega
    · have e : once acc (x :: r) = once (acc ++ [x]) r := by
        show once (if acc.any (· == x) then acc else acc ++ [x]) r = _
        rw [if_neg c]
      rw [e, List.length_cons] at h
      obtain ⟨nd, no⟩ := once_all r (acc ++ [x]) (by rw [h, List.length_append, List.length_cons, List.length_nil]; omega)
      have nx : x ∉ acc := fun z => c (List.any_eq_true.mpr ⟨x, z, by simp⟩)
      refine ⟨List.nodup_cons.mpr ⟨fun z => no x z (List.mem_append_right _ List.mem_cons_self), nd⟩, fun y hy => ?_⟩
      rcases List.mem_cons.mp hy with rfl | hy
      · exact nx
      · exact fun z => no y hy (List.mem_append_left _ z)
theorem name_ok {x : Str} (h : isName x = true) : PyData.strOk x = true ∧ x.length ≤ 8 := by
  unfold isName at h
  simp only [Bool.and_eq_true] at h
  obtain ⟨_, h2, h3, _⟩ := h
  refine ⟨?_, by have := of_decide_eq_true h2; omega⟩
  unfold Txt.isascii at h3
  unfold PyData.strOk
  rw [Array.all_eq_true] at h3 ⊢
  intro i hi
  have z := of_decide_eq_true (h3 i hi)
  exact decide_eq_true (by omega)
/-- what are_keys says of texts -/
theorem areKeys_ok {xs : List Str} (h : areKeys xs = true) : 1 ≤ xs.length ∧ xs.length ≤ 6 ∧ (∀ x ∈ xs, isName x = true) ∧ xs.Nodup := by
  unfold areKeys at h
  simp only [Bool.and_eq_true] at h
  obtain ⟨h1, h2, h3, h4⟩ := h
  have a := of_decide_eq_true h1
  have b := of_decide_eq_true h2
  refine ⟨by omega, by omega, List.all_eq_true.mp h3, (once_all xs [] ?_).1⟩
  rw [of_decide_eq_true h4, List.length_nil, Nat.zero_add]
theorem places_pairs (ks : List Str) (d : Nat) : (placesOf ks d).map plV = pairsV ks d := by
  unfold placesOf pairsV
  rw [List.map_flatMap]
  simp only [List.map_map]
  rfl
theorem length_places (ks : List Str) (d : Nat) : (placesOf ks d).length = ks.length * d := by
  rw [← length_pairsV, ← places_pairs, List.length_map]
theorem mem_places {ks : List Str} {d : Nat} {p : Str × Nat} : p ∈ placesOf ks d ↔ p.1 ∈ ks ∧ p.2 < d := by
  unfold placesOf
  rw [List.mem_flatMap]
  constructor
  · rintro ⟨k, hk, hp⟩
    obtain ⟨i, hi, rfl⟩ := List.mem_map.mp hp
    exact ⟨hk, List.mem_range.mp hi⟩
  · rintro ⟨h1, h2⟩
    exact ⟨p.1, h1, List.mem_map.mpr ⟨p.2, List.mem_range.mpr h2, rfl⟩⟩
theorem nodup_places : ∀ {ks : List Str} (d : Nat), ks.Nodup → (placesOf ks d).Nodup
  | [], d, _ => .nil
  | k :: r, d, nd => by
    rw [List.nodup_cons] at nd
    have ih := nodup_places d nd.2
    have e : placesOf (k :: r) d = (List.range d).map (fun i => (k, i)) ++ placesOf r d := by
      unfold placesOf
      rw [List.flatMap_cons]
    rw [e]
    refine List.nodup_append.mpr ⟨?_, ih, fun p hp q hq z => ?_⟩
    · refine List.Pairwise.map (R := fun a b => a ≠ b) _ (fun a b n z => n ?_) List.nodup_range
      injection z
    · subst z
      obtain ⟨i, _, rfl⟩ := List.mem_map.mp hp
      exact nd.1 (mem_places.mp hq).1
theorem nodup_plK {ps : List (Str × Nat)} (h : ps.Nodup) : (ps.map plK).Nodup := List.Pairwise.map _ (fun _ _ n z => n (plK_inj.mp z)) h
theorem tups_keyed {H : Hp} {bs : List Addr} {ps : List (Str × Nat)} (t : Tups H bs (ps.map plV)) : Keyed H bs (ps.map plK) := by
  refine ⟨by rw [t.1, List.length_map, List.length_map], fun i b k hb hk => ?_⟩
  rw [List.getElem?_map] at hk
  obtain ⟨p, hp, rfl⟩ := Option.map_eq_some_iff.mp hk
  exact t.2 i b (plV p) hb (by rw [List.getElem?_map, hp]; rfl)
def spShapeInit (K : PySem.W.Frag) : Sp := fun vs H Q _ => ∃ x dx a xs, ∃ d : Nat, vs = [.ref x, .ref a, .int d] ∧ H x = some (.ins (He.ga K "Shape") dx []) ∧ H dx = some (.own x) ∧ Sq K H a (xs.map V.str) ∧ areKeys xs = true ∧ (∀ y ∈ xs, y.length ≤ sizeLine) ∧ 1 ≤ d ∧ d ≤ 8 ∧ xs.length * d ≤ 36 ∧
  ∀ H' ys, Keep x H H' → ys.Perm xs → sortedS ys = true → ShapeAt K H' x ys d → Q .non H'
def shFs1 (t1 : Addr) : List (Str × V) := [("key_names", .ref t1)]
def shFs2 (t1 : Addr) (d : Nat) : List (Str × V) := [("key_names", .ref t1), ("days", .int d)]
def shFs3 (t1 t2 : Addr) (d : Nat) : List (Str × V) := [("key_names", .ref t1), ("days", .int d), ("places", .ref t2)]
theorem keep_up {H H1 : Hp} {x : Addr} {u v : HO} (k : Keep x H H1) (hx : H x = some u) : Keep x H (upd H1 x v) := fun b o n e => (upd_ne n).trans (k b o n e)
section
variable {P : Program} {w : World} {K : PySem.W.Frag} {mg : Str → Option Value} {base : Heap} {fd : FuncData}
theorem ok_shape_init (T : Top w K mg) (D_are_keys : Def P w K mg base "are_keys" 2 ["value"] (spAreKeys K)) (D_is_whole_from : Def P w K mg base "is_whole_from" 2 ["value", "low", "high"] (spFrom K)) (R_BadShape : RzX P w K mg base "BadShape" (ca K 4) ["part"]) (R_TooMany : RzX P w K mg base "TooMany" (ca K 14) ["what", "most"]) {f : Addr} (F : FunD K "__init__" "Shape.__init__" (defArgs s_Shape_init) (defBody s_Shape_init) (defScope s_Shape_init) [] [] f fd) : FnOk P w K mg base (L2.CX P w) 3 f fd ["self", "keys", "days"] (spShapeInit K) := by
  refine F.ok sc_Shape_init (fun vs H Q E h => ?_) (fun cdv A outer s H vs Q E hr h => ?_)
  · obtain ⟨x, dx, a, xs, d, rfl, _⟩ := h
    rfl
  · obtain ⟨x, dx, a, xs, d, rfl, hx, hdx, q, ak, short, d1, d8, few, k⟩ := h
    have hu := hr.units
    refine ⟨_, (pss_cons (ps_if (pt_not (pt_val (pe_callD D_are_keys (hr.mono (by decide)) rfl (pa_cons (pv 1) pa_nil)))) (pss_one (ps_rz R_BadShape rfl (hr.mono (by decide)) (takes_of rfl rfl rfl rfl) rfl (pa_cons pe_str pa_nil))) pss_nil)
      (pss_cons (ps_if (pt_not (pt_val (pe_callD D_is_whole_from (hr.mono (by decide)) rfl (pa_cons (pv 2) (pa_cons pe_int (pa_cons (pe_globE rfl T.i_MOST_DAYS) pa_nil)))))) (pss_one (ps_rz R_BadShape rfl (hr.mono (by decide)) (takes_of rfl rfl rfl rfl) rfl (pa_cons pe_str pa_nil))) pss_nil)
      (pss_cons (ps_if (pt_cmpR op_gt (pe_op op_times (pe_callB (call_lenK (K := K) rfl) rfl T.n_len (by decide +kernel) (pa_cons (pv 1) pa_nil)) (pv 2)) (pe_globE rfl T.i_MOST_PLACES) (nomark _)) (pss_one (ps_rz R_TooMany rfl (hr.mono (by decide)) (takes_of rfl rfl rfl rfl) rfl (pa_cons pe_str (pa_cons (pe_globE rfl T.i_MOST_PLACES) pa_nil)))) pss_nil)
      (pss_cons (ps_fld (pv 0) (pe_callTy call_tuple_of rfl T.n_tuple (by decide +kernel) (pa_cons (pe_callB cr_sortedS rfl T.n_sorted (by decide +kernel) (pa_cons (pe_lc (own := [("key", 3)]) (g := gName 3) (tt := tYes) (by rfl) sc_Shape_init.nd (pi_sqK (K := K) rfl (pv 1)) (blkOk_by (own := [("key", 3)]) (N := ["self", "keys", "days", "key", "day", "index", "place"]) (sc := defScope s_Shape_init) (by decide +kernel)) (fun _ _ _ _ _ => by exact (pg_name (i := 3) sc_Shape_init.nd rfl (by first | exact Or.inl rfl | exact Or.inr rfl))) (fun _ _ _ _ _ => by exact pts_nil) (fun _ _ _ _ _ => by exact (pe_callTy SkE.call_str_str rfl T.n_str (by decide +kernel) (pa_cons (pv 3) pa_nil)))) pa_nil)) pa_nil)) rfl)
      (pss_cons (ps_fld (pv 0) (pv 2) rfl)
      (pss_cons (ps_fld (pv 0) (pe_callTy call_tuple_of rfl T.n_tuple (by decide +kernel) (pa_cons (pe_lc2 (own := [("key", 3), ("day", 4)]) (vs1 := [4]) (g := gName 3) (g1 := gName 4) (tt := tYes) (tt1 := tYes) (by rfl) sc_Shape_init.nd (pi_sqK (K := K) rfl (pe_fldK (K := K) rfl (pv 0) rfl)) (blkOk_by (own := [("key", 3), ("day", 4)]) (N := ["self", "keys", "days", "key", "day", "index", "place"]) (sc := defScope s_Shape_init) (by decide +kernel)) (by decide) (fun _ _ _ _ _ => by exact (pg_name (i := 3) sc_Shape_init.nd rfl (by first | exact Or.inl rfl | exact Or.inr rfl))) (fun _ _ _ _ _ => by exact pts_nil) (fun _ _ _ _ _ => by exact (pi_range1 rfl T.n_range (pa_cons (pv 2) pa_nil))) (fun _ _ _ _ _ => by exact (pg_name (i := 4) sc_Shape_init.nd rfl (by first | exact Or.inl rfl | exact Or.inr rfl))) (fun _ _ _ _ _ => by exact pts_nil) (fun _ _ _ _ _ => by exact (pe_tup (pa_cons (pv 3) (pa_cons (pv 4) pa_nil))))) pa_nil)) rfl)
      (pss_one (ps_fld (pv 0) (pe_dcT (own := [("index", 5), ("place", 6)]) (g := gTup K 2 (gCons (gName 5) (gCons (gName 6) gNil))) (tt := tYes) (Nat.lt_of_le_of_lt (Nat.le_add_right _ _) hu) (by rfl) sc_Shape_init.nd (pi_enumSq rfl T.n_enumerate (pa_cons (pe_fldK (K := K) rfl (pv 0) rfl) pa_nil)) (blkOk_by (own := [("index", 5), ("place", 6)]) (N := ["self", "keys", "days", "key", "day", "index", "place"]) (sc := defScope s_Shape_init) (by decide +kernel)) (fun _ _ _ _ _ => by exact (pg_tup rfl (pgs_cons (pg_name (i := 5) sc_Shape_init.nd rfl (by first | exact Or.inl rfl | exact Or.inr rfl)) (pgs_cons (pg_name (i := 6) sc_Shape_init.nd rfl (by first | exact Or.inl rfl | exact Or.inr rfl)) pgs_nil)))) (fun _ _ _ _ _ => by exact pts_nil) (fun _ _ _ _ _ => by exact (pv 6)) (fun _ _ _ _ _ => by exact (pv 5))) rfl)))))))), ?_⟩
    obtain ⟨l1, l6, names, nd⟩ := areKeys_ok ak
    refine ⟨_, rfl, a, xs, rfl, q, by omega, short, fun H1 s1 => ⟨_, rfl, ?_⟩⟩
    refine ite2 (fun c => absurd c (by rw [ak]; decide)) (fun _ => ?_)
    have q1 := q.keep (SqKeep.of_same s1)
    refine ⟨_, rfl, .int d, 1, 8, rfl, kinds_int _, _, rfl, ?_⟩
    refine ite2 (fun c => absurd c (by
      have e : from_ 1 8 (.int (d : Int)) = true := by
        show (decide ((1 : Int) ≤ d) && decide ((d : Int) ≤ 8)) = true
        rw [decide_eq_true (by omega), decide_eq_true (by omega)]
        rfl
      rw [e]; decide)) (fun _ => ?_)
    refine ⟨_, rfl, _, _, rfl, len_sq q1, _, rfl, .inl ⟨_, _, rfl, rfl, cmulL (by omega) (by rw [List.length_map]; omega), _, _, rfl, rfl, _, rfl, ?_⟩⟩
    refine ite2 (fun c => absurd (of_decide_eq_true c) (by
      rw [List.length_map]
      have : ((xs.length : Int) * (d : Int)) = ((xs.length * d : Nat) : Int) := by push_cast; rfl
      rw [this]
      omega)) (fun _ => ?_)
    with_reducible refine nxU ?_
    with_reducible refine sfldsU ?_
    with_reducible refine cb1U ?_
    with_reducible refine cb1U ?_
    have hx1 := s1 _ _ hx
    have hdx1 := s1 _ _ hdx
    have ne : dx ≠ x := fun z => by rw [z, hx] at hdx; cases hdx
    refine lc_pure (j := 3) (fun _ => true) (fun v => v) q1 (by rw [List.length_map, sizeLine_eq]; omega) (fun R r => ⟨_, rfl, r⟩) (fun v hv H2 Q' s q' => q') (fun v hv _ H2 Q' s q' => ?_) fun D hD => ?_
    · obtain ⟨y, _, rfl⟩ := List.mem_map.mp hv
      exact ⟨_, rfl, y, rfl, q'⟩
    rw [filt_all, List.map_id']
    refine ⟨D, xs, rfl, .inl (.inl upd_same), by omega, fun ys p perm so hp => ?_⟩
    refine ⟨p, ys.map V.str, rfl, .inl ⟨.inl (.inl upd_same), fun t ht => ?_⟩⟩
    have s2 := ((s1.trans (same_new hD)).trans (same_new hp)).trans (same_new (o := .tup (ys.map V.str)) ht)
    have et : (upd (upd (upd H1 D (.lst (xs.map V.str))) p (.lst (ys.map V.str))) t (.tup (ys.map V.str))) t = some (.tup (ys.map V.str)) := upd_same
    generalize upd (upd (upd H1 D (.lst (xs.map V.str))) p (.lst (ys.map V.str))) t (.tup (ys.map V.str)) = H2 at s2 et ⊢
    clear hD hp ht q1 hx1 hdx1 s1 q
    have hx2 := s2 _ _ hx
    have hdx2 := s2 _ _ hdx
    have net : t ≠ x := fun z => by rw [z, hx2] at et; cases et
    refine ⟨_, rfl, x, _, dx, [], rfl, hx2, T.k_Shape, T.a_Shape_key_names, (by decide : (0 : Nat) < 1000), ?_⟩
    -- days
    with_reducible refine sfldsU ?_
    refine ⟨_, rfl, _, rfl, x, _, dx, shFs1 t, rfl, upd_same, T.k_Shape, T.a_Shape_days, (by decide : (1 : Nat) < 1000), ?_⟩
    rw [upd_upd]
    show tSeq _ _ _ _ (upd H2 x (.ins _ dx (shFs2 t d)))
    have k3 : Keep x H (upd H2 x (.ins (He.ga K "Shape") dx (shFs2 t d))) := keep_up (Keep.of s2) hx
    have et3 : (upd H2 x (.ins (He.ga K "Shape") dx (shFs2 t d))) t = some (.tup (ys.map V.str)) := (upd_ne net).trans et
    have hx3 : (upd H2 x (.ins (He.ga K "Shape") dx (shFs2 t d))) x = some (.ins (He.ga K "Shape") dx (shFs2 t d)) := upd_same
    generalize upd H2 x (.ins (He.ga K "Shape") dx (shFs2 t d)) = H3 at k3 et3 hx3 ⊢
    clear s2 et hx2 hdx2
    -- places
    with_reducible refine sfldsU ?_
    with_reducible refine cb1U ?_
    have ly : ys.length = xs.length := perm.length_eq
    refine lc_pairs (i := 3) (j := 4) (by decide) (by show 3 < 7; decide) (by show 4 < 7; decide) (.inl (SqT.of et3)) (by rw [ly]; omega) (by omega) (fun R r => ⟨_, rfl, x, _, dx, _, _, rfl, hx3, T.k_Shape, T.a_Shape_key_names, rfl, r⟩) (fun v H4 R r => ⟨_, rfl, r⟩) fun D bs H4 s4 hD hDl tu => ?_
    refine ⟨D, bs.map V.ref, rfl, .inl ⟨.inl (.inl hDl), fun t2 ht2 => ?_⟩⟩
    have s5 := s4.trans (same_new (o := .tup (bs.map V.ref)) ht2)
    have e5 : (upd H4 t2 (.tup (bs.map V.ref))) t2 = some (.tup (bs.map V.ref)) := upd_same
    have tu5 := tu.keep (H' := upd H4 t2 (.tup (bs.map V.ref))) fun b us e => same_new ht2 _ _ e
    generalize upd H4 t2 (.tup (bs.map V.ref)) = H5 at s5 e5 tu5 ⊢
    clear tu hDl s4 ht2 hD
    have hx5 := s5 _ _ hx3
    have et5 := s5 _ _ et3
    have net2 : t2 ≠ x := fun z => by rw [z, hx5] at e5; cases e5
    refine ⟨_, rfl, x, _, dx, shFs2 t d, rfl, hx5, T.k_Shape, T.a_Shape_places, (by decide : (2 : Nat) < 1000), ?_⟩
    show sFld _ _ _ _ _ _ (upd H5 x (.ins _ dx (shFs3 t t2 d)))
    have k6 : Keep x H (upd H5 x (.ins (He.ga K "Shape") dx (shFs3 t t2 d))) := keep_up (k3.trans (Keep.of s5)) hx
    have et6 : (upd H5 x (.ins (He.ga K "Shape") dx (shFs3 t t2 d))) t = some (.tup (ys.map V.str)) := (upd_ne net).trans et5
    have e6 : (upd H5 x (.ins (He.ga K "Shape") dx (shFs3 t t2 d))) t2 = some (.tup (bs.map V.ref)) := (upd_ne net2).trans e5
    have hx6 : (upd H5 x (.ins (He.ga K "Shape") dx (shFs3 t t2 d))) x = some (.ins (He.ga K "Shape") dx (shFs3 t t2 d)) := upd_same
    have tu6 := tu5.keep (H' := upd H5 x (.ins (He.ga K "Shape") dx (shFs3 t t2 d))) fun b us e => by
      have n : b ≠ x := fun z => by rw [z, hx5] at e; cases e
      exact (upd_ne n).trans e
    generalize upd H5 x (.ins (He.ga K "Shape") dx (shFs3 t t2 d)) = H6 at k6 et6 e6 hx6 tu6 ⊢
    clear tu5 s5 e5 hx5 et5 k3 et3 hx3
    -- indexes
    with_reducible refine sfldU ?_
    rw [← places_pairs] at tu6
    have ndp := nodup_places d ((perm.nodup_iff).mpr nd)
    have lb : bs.length = ys.length * d := by rw [tu6.1, List.length_map, length_places]
    refine dc_index (i := 5) (j := 6) (by decide) (by show 5 < 7; decide) (by show 6 < 7; decide) (.inl (SqT.of e6)) (tups_keyed tu6) (nodup_plK ndp) (by rw [lb, ly]; omega) (fun R r => ⟨_, rfl, x, _, dx, _, _, rfl, hx6, T.k_Shape, T.a_Shape_places, rfl, r⟩) fun D H7 s7 hD e7 => ?_
    have hx7 := s7 _ _ hx6
    have nD : D ≠ x := fun z => by rw [z, hx7] at e7; cases e7
    refine ⟨_, rfl, x, _, dx, shFs3 t t2 d, rfl, hx7, T.k_Shape, T.a_Shape_indexes, (by decide : (3 : Nat) < 1000), ?_⟩
    have k8 : Keep x H (upd H7 x (.ins (He.ga K "Shape") dx [("key_names", .ref t), ("days", .int d), ("places", .ref t2), ("indexes", .ref D)])) := keep_up (k6.trans (Keep.of s7)) hx
    refine k _ ys k8 perm so ⟨⟨dx, t, t2, D, bs, upd_same, k8 _ _ ne hdx, .inl ((upd_ne net).trans (s7 _ _ et6)), .inl ((upd_ne net2).trans (s7 _ _ e6)), by rw [lb, length_places], fun i p b hp hb => ?_, ?_⟩, ?_, ⟨(perm.nodup_iff).mpr nd, fun y hy => names y (perm.mem_iff.mp hy), by omega, by omega, d1, d8, by rw [ly]; exact few⟩⟩
    · have z := tu6.2 i b (plV p) hb (by rw [List.getElem?_map, hp]; rfl)
      have n : b ≠ x := fun y => by rw [y, hx6] at z; cases z
      exact (upd_ne n).trans (s7 _ _ z)
    · refine .inl ((upd_ne nD).trans ?_)
      rw [e7, List.zipIdx_map, List.map_map]
      rfl
    · exact List.all_eq_true.mpr fun y hy => (name_ok (names y (perm.mem_iff.mp hy))).1
end
end L2.K20
set_option Elab.async false
set_option linter.all false
set_option maxRecDepth 100000
set_option maxHeartbeats 4000000
/-! What stays when a heap changes; amounts looked at. -/
namespace L2.K20
open PySem PySem.Spec PyProof.Rows L2.RV
def Fix : HO → Prop
  | .ins _ _ _ => True
  | .own _ => True
  | .tup _ => True
  | _ => False
/-- objects, tuples and dicts by tuples stay, the dicts of E aside -/
structure Kp (E : Addr → Prop) (H H' : Hp) : Prop where
  fix : ∀ b o, Fix o → H b = some o → H' b = some o
  dt : ∀ b (kvs : List (List L2.Key × V)), ¬ E b → Rd H b (.dT kvs) → Rd H' b (.dT kvs)
  tu : ∀ b xs, Rd H b (.tup xs) → Rd H' b (.tup xs)
abbrev Kp0 : Hp → Hp → Prop := Kp fun _ => False
theorem Kp.refl {E : Addr → Prop} {H : Hp} : Kp E H H := ⟨fun _ _ _ h => h, fun _ _ _ h => h, fun _ _ h => h⟩
theorem Kp.trans {E : Addr → Prop} {H H1 H2 : Hp} (a : Kp E H H1) (b : Kp E H1 H2) : Kp E H H2 := ⟨fun c o f h => b.fix c o f (a.fix c o f h), fun c k n h => b.dt c k n (a.dt c k n h), fun c x h => b.tu c x (a.tu c x h)⟩
theorem Kp.more {E E' : Addr → Prop} {H H1 : Hp} (a : Kp E H H1) (e : ∀ b, E b → E' b) : Kp E' H H1 := ⟨a.fix, fun c k n h => a.dt c k (fun z => n (e c z)) h, a.tu⟩
theorem Kp.all {E : Addr → Prop} {H H1 : Hp} (a : Kp0 H H1) : Kp E H H1 := a.more fun _ z => z.elim
theorem Kp.of {E : Addr → Prop} {H H' : Hp} (s : Same H H') : Kp E H H' := ⟨fun b o _ h => s b o h, fun _ _ _ h => Rd.keep h (s _), fun _ _ h => Rd.keep h (s _)⟩
theorem Kp.pen {E : Addr → Prop} {H H' : Hp} {p : Addr} {xs : List V} (k : Keep p H H') (e : H p = some (.lst xs)) : Kp E H H' := by
  have ne : ∀ {b o}, H b = some o → (∀ ys, o ≠ .lst ys) → b ≠ p := fun {b o} h n z => by
    rw [z, e] at h
    exact n xs (Option.some.inj h).symm
  refine ⟨fun b o f h => k b o (ne h fun ys z => by rw [z] at f; exact f) h, fun b kvs _ h => ?_, fun b ys h => ?_⟩
  · rcases h with h | ⟨od, h⟩
    · exact .inl (k b _ (ne h fun _ z => nomatch z) h)
    · exact .inr ⟨od, k b _ (ne h fun _ z => nomatch z) h⟩
  · rcases h with h | ⟨od, h⟩
    · exact .inl (k b _ (ne h fun _ z => nomatch z) h)
    · exact .inr ⟨od, k b _ (ne h fun _ z => nomatch z) h⟩
theorem Kp.lock {E : Addr → Prop} {H : Hp} {t : Addr} {kvs : List (List L2.Key × V)} {od : Obj} (e : H t = some (.dT kvs)) : Kp E H (upd H t (.frz od (.dT kvs))) := by
  refine ⟨fun b o f h => ?_, fun b ks _ h => ?_, fun b ys h => ?_⟩
  · have n : b ≠ t := fun z => by rw [z, e] at h; cases h; exact f
    exact (upd_ne n).trans h
  · by_cases n : b = t
    · subst n
      rcases h with h | ⟨od', h⟩
      · rw [e] at h
        cases h
        exact .inr ⟨od, upd_same⟩
      · rw [e] at h
        cases h
    · exact Rd.keep h fun o z => (upd_ne n).trans z
  · have n : b ≠ t := fun z => by
      rcases h with h | ⟨od', h⟩
      · rw [z, e] at h; cases h
      · rw [z, e] at h; cases h
    exact Rd.keep h fun o z => (upd_ne n).trans z
/-- a dict is changed -/
theorem Kp.mut {H : Hp} {t : Addr} {kvs : List (List L2.Key × V)} {o' : HO} (e : H t = some (.dT kvs)) : Kp (fun b => b = t) H (upd H t o') := by
  refine ⟨fun b o f h => ?_, fun b ks n h => ?_, fun b ys h => ?_⟩
  · have n : b ≠ t := fun z => by rw [z, e] at h; cases h; exact f
    exact (upd_ne n).trans h
  · exact Rd.keep h fun o z => (upd_ne n).trans z
  · have n : b ≠ t := fun z => by
      rcases h with h | ⟨od', h⟩
      · rw [z, e] at h; cases h
      · rw [z, e] at h; cases h
    exact Rd.keep h fun o z => (upd_ne n).trans z
/-- .. and their dicts are not locked -/
structure Kx (E : Addr → Prop) (H H' : Hp) : Prop where
  kp : Kp E H H'
  ex : ∀ b (kvs : List (List L2.Key × V)), ¬ E b → H b = some (.dT kvs) → H' b = some (.dT kvs)
  dk : ∀ b (kvs : List (L2.Key × V)), H b = some (.dK kvs) → H' b = some (.dK kvs)
abbrev Kx0 : Hp → Hp → Prop := Kx fun _ => False
theorem Kx.refl {E : Addr → Prop} {H : Hp} : Kx E H H := ⟨Kp.refl, fun _ _ _ h => h, fun _ _ h => h⟩
theorem Kx.trans {E : Addr → Prop} {H H1 H2 : Hp} (a : Kx E H H1) (b : Kx E H1 H2) : Kx E H H2 := ⟨a.kp.trans b.kp, fun c k n h => b.ex c k n (a.ex c k n h), fun c k h => b.dk c k (a.dk c k h)⟩
theorem Kx.more {E E' : Addr → Prop} {H H1 : Hp} (a : Kx E H H1) (e : ∀ b, E b → E' b) : Kx E' H H1 := ⟨a.kp.more e, fun c k n h => a.ex c k (fun z => n (e c z)) h, a.dk⟩
theorem Kx.all {E : Addr → Prop} {H H1 : Hp} (a : Kx0 H H1) : Kx E H H1 := a.more fun _ z => z.elim
theorem Kx.of {E : Addr → Prop} {H H' : Hp} (s : Same H H') : Kx E H H' := ⟨.of s, fun b _ _ h => s b _ h, fun b _ h => s b _ h⟩
theorem Kx.pen {E : Addr → Prop} {H H' : Hp} {p : Addr} {xs : List V} (k : Keep p H H') (e : H p = some (.lst xs)) : Kx E H H' :=
  ⟨.pen k e, fun b _ _ h => k b _ (fun z => by rw [z, e] at h; cases h) h, fun b _ h => k b _ (fun z => by rw [z, e] at h; cases h) h⟩
theorem Kx.mut {H : Hp} {t : Addr} {kvs : List (List L2.Key × V)} {o' : HO} (e : H t = some (.dT kvs)) : Kx (fun b => b = t) H (upd H t o') := ⟨.mut e, fun b _ n h => (upd_ne n).trans h, fun b _ h => (upd_ne (fun z => by rw [z, e] at h; cases h)).trans h⟩
theorem SqT.kp {K : PySem.W.Frag} {E : Addr → Prop} {H H' : Hp} {a : Addr} {xs : List V} (q : SqT K H a xs) (k : Kp E H H') : SqT K H' a xs := q.imp (k.tu _ _) id
theorem upd_self {H : Hp} {t : Addr} {o : HO} (e : H t = some o) : upd H t o = H := by
  funext b
  by_cases n : b = t
  · subst n
    rw [upd_same, e]
  · exact upd_ne n
/-- a shape and the parts it is made of -/
structure ShapeC (K : PySem.W.Frag) (H : Hp) (a dx t1 t2 t3 : Addr) (bs : List Addr) (ks : List Str) (d : Nat) : Prop where
  obj : H a = some (.ins (He.ga K "Shape") dx [("key_names", .ref t1), ("days", .int d), ("places", .ref t2), ("indexes", .ref t3)])
  own : H dx = some (.own a)
  names : Rd H t1 (.tup (ks.map V.str))
  places : Rd H t2 (.tup (bs.map V.ref))
  len : bs.length = (placesOf ks d).length
  each : ∀ (i : Nat) (p : Str × Nat) (b : Addr), (placesOf ks d)[i]? = some p → bs[i]? = some b → H b = some (.tup (plV p))
  index : Rd H t3 (.dT ((placesOf ks d).zipIdx.map fun z => (plK z.1, .int z.2)))
  good : (ks.all fun x => PyData.strOk x) = true
  ok : ShOk ks d
theorem ShapeAt.core {K : PySem.W.Frag} {H : Hp} {a : Addr} {ks : List Str} {d : Nat} (s : ShapeAt K H a ks d) : ∃ dx t1 t2 t3 bs, ShapeC K H a dx t1 t2 t3 bs ks d := by
  obtain ⟨dx, t1, t2, t3, bs, h1, h2, h3, h4, h5, h6, h7⟩ := s.ex
  exact ⟨dx, t1, t2, t3, bs, h1, h2, h3, h4, h5, h6, h7, s.good, s.ok⟩
theorem ShapeC.at_ {K : PySem.W.Frag} {H : Hp} {a dx t1 t2 t3 : Addr} {bs : List Addr} {ks : List Str} {d : Nat} (c : ShapeC K H a dx t1 t2 t3 bs ks d) : ShapeAt K H a ks d := ⟨⟨dx, t1, t2, t3, bs, c.obj, c.own, c.names, c.places, c.len, c.each, c.index⟩, c.good, c.ok⟩
theorem ShapeC.kp {K : PySem.W.Frag} {E : Addr → Prop} {H H' : Hp} {a dx t1 t2 t3 : Addr} {bs : List Addr} {ks : List Str} {d : Nat} (c : ShapeC K H a dx t1 t2 t3 bs ks d) (k : Kp E H H') (n : ¬ E t3) : ShapeC K H' a dx t1 t2 t3 bs ks d :=
  ⟨k.fix _ _ True.intro c.obj, k.fix _ _ True.intro c.own, k.tu _ _ c.names, k.tu _ _ c.places, c.len, fun i p b hp hb => k.fix _ _ True.intro (c.each i p b hp hb), k.dt _ _ n c.index, c.good, c.ok⟩
theorem ShapeAt.kp {K : PySem.W.Frag} {H H' : Hp} {a : Addr} {ks : List Str} {d : Nat} (s : ShapeAt K H a ks d) (k : Kp0 H H') : ShapeAt K H' a ks d := by
  obtain ⟨dx, t1, t2, t3, bs, c⟩ := s.core
  exact (c.kp k id).at_
theorem ShapeC.keyed {K : PySem.W.Frag} {H : Hp} {a dx t1 t2 t3 : Addr} {bs : List Addr} {ks : List Str} {d : Nat} (c : ShapeC K H a dx t1 t2 t3 bs ks d) : Keyed H bs ((placesOf ks d).map plK) := by
  refine ⟨by rw [c.len, List.length_map], fun i b k hb hk => ?_⟩
  rw [List.getElem?_map] at hk
  obtain ⟨p, hp, rfl⟩ := Option.map_eq_some_iff.mp hk
  exact c.each i p b hp hb
theorem PlAt.kp {E : Addr → Prop} {H H' : Hp} {b : Addr} {p : Str × Nat} (x : PlAt H b p) (k : Kp E H H') : PlAt H' b p := k.fix _ _ True.intro x
theorem key_pl {H : Hp} {q : Addr} {p : Pl} (e : H q = some (.tup ((plK p).map kV))) : PlAt H q p := e
theorem plD_get {ws : List (Pl × Int)} {i : Nat} {k : List L2.Key} {v : V} (h : (plD ws)[i]? = some (k, v)) : ∃ z, z ∈ ws ∧ k = plK z.1 ∧ v = V.int z.2 := by
  unfold plD at h
  rw [List.getElem?_map] at h
  obtain ⟨z, hz, e⟩ := Option.map_eq_some_iff.mp h
  cases e
  exact ⟨z, List.mem_of_getElem? hz, rfl, rfl⟩
/-- check_amounts(shape, amounts), all of them right -/
def spAmounts (K : PySem.W.Frag) : Sp := fun vs H Q _ => ∃ a t ks d ws, vs = [.ref a, .ref t] ∧ ShapeAt K H a ks d ∧ H t = some (.dT (plD ws)) ∧ (∀ z ∈ ws, z.1 ∈ placesOf ks d) ∧ Q .non H
section
variable {P : Program} {w : World} {K : PySem.W.Frag} {mg : Str → Option Value} {base : Heap} {fd : FuncData}
theorem ok_check_amounts (T : Top w K mg) (S_Shape_contains : MethS CX0 P w K mg base (He.ga K "Shape") "__contains__" 3 ["self", "x"] (spShapeIn K)) (D_is_whole : Def P w K mg base "is_whole" 1 ["value"] (spWhole K)) (R_BadPlace : RzX P w K mg base "BadPlace" (ca K 9) ["value"]) (R_BadAmount : RzX P w K mg base "BadAmount" (ca K 10) ["value"]) (F : Fn K "check_amounts" s_check_amounts fd) : FnOk P w K mg base (L2.CX P w) 4 (He.ga K "check_amounts") fd ["shape", "amounts"] (spAmounts K) := by
  refine F.ok sc_check_amounts (fun vs H Q E h => ?_) (fun cdv A outer s H vs Q E hr h => ?_)
  · obtain ⟨a, t, ks, d, ws, rfl, _⟩ := h
    rfl
  · obtain ⟨a, t, ks, d, ws, rfl, s1, et, all, k⟩ := h
    have hu := hr.units
    refine ⟨_, (pss_cons (ps_lock (ps_for (passes_of rfl) rfl (pi_keys (pv 1)) (pg_name (i := 2) sc_check_amounts.nd rfl (by first | exact Or.inl rfl | exact Or.inr rfl)) (pss_one (ps_if (pt_cmpR (op_notInO S_Shape_contains (hr.mono (by decide)) pass_CX0) (pv 2) (pv 0) rfl) (pss_one (ps_rz R_BadPlace rfl (hr.mono (by decide)) (takes_of rfl rfl rfl rfl) rfl (pa_cons (pv 2) pa_nil))) pss_nil))))
      (pss_one (ps_lock (ps_for (passes_of rfl) rfl (pi_valuesT (pv 1)) (pg_name (i := 3) sc_check_amounts.nd rfl (by first | exact Or.inl rfl | exact Or.inr rfl)) (pss_one (ps_if (pt_not (pt_val (pe_callD D_is_whole (hr.mono (by decide)) rfl (pa_cons (pv 3) pa_nil)))) (pss_one (ps_rz R_BadAmount rfl (hr.mono (by decide)) (takes_of rfl rfl rfl rfl) rfl (pa_cons (pv 3) pa_nil))) pss_nil)))))), ?_⟩
    have sl : ∀ od, ShapeAt K (upd H t (.frz od (.dT (plD ws)))) a ks d := fun od => s1.kp (Kp.lock et)
    have un : ∀ od, upd (upd H t (.frz od (.dT (plD ws)))) t (.dT (plD ws)) = H := fun od => by rw [upd_upd, upd_self et]
    refine ⟨t, .dT (plD ws), et, True.intro, fun od => ?_⟩
    refine ⟨_, rfl, t, od, rfl, .inr ⟨plD ws, upd_same, ?_⟩⟩
    refine for_it walk_keysT (fun n σ' H' => (∃ c c', σ' = [some (.ref a), some (.ref t), c, c']) ∧ H' = upd H t (.frz od (.dT (plD ws)))) ⟨⟨_, _, rfl⟩, rfl⟩ (fun n σ' H' _ q => by rw [q.2]; exact upd_same) (fun n z σ' H' H'' hn q yy => ?_) (fun σ' H' q => ?_)
    · obtain ⟨⟨c, c', rfl⟩, rfl⟩ := q
      obtain ⟨rfl, key, v, q, hkv, rfl, hq⟩ := yy
      obtain ⟨z, hz, rfl, rfl⟩ := plD_get hkv
      obtain ⟨dy, gs, e5⟩ := (sl od).ins
      refine ⟨_, rfl, _, rfl, a, dy, gs, rfl, e5, a, q, ks, d, z.1, rfl, sl od, key_pl hq, _, rfl, _, rfl, ?_⟩
      rw [decide_eq_true (all z hz)]
      exact ⟨⟨_, _, rfl⟩, rfl⟩
    · obtain ⟨⟨c, c', rfl⟩, rfl⟩ := q
      refine ⟨upd_same, ?_⟩
      rw [un od]
      refine ⟨t, .dT (plD ws), et, True.intro, fun od2 => ?_⟩
      refine ⟨_, rfl, t, od2, plD ws, rfl, upd_same, ?_⟩
      refine for_it walk_valsT (fun n σ' H' => (∃ c c', σ' = [some (.ref a), some (.ref t), c, c']) ∧ H' = upd H t (.frz od2 (.dT (plD ws)))) ⟨⟨_, _, rfl⟩, rfl⟩ (fun n σ' H' _ q => by rw [q.2]; exact upd_same) (fun n z σ' H' H'' hn q yy => ?_) (fun σ' H' q => ?_)
      · obtain ⟨⟨c, c', rfl⟩, rfl⟩ := q
        obtain ⟨rfl, key, hkv⟩ := yy
        obtain ⟨z, hz, rfl, rfl⟩ := plD_get hkv
        refine ⟨_, rfl, .int z.2, rfl, kinds_int _, _, rfl, ?_⟩
        exact ⟨⟨_, _, rfl⟩, rfl⟩
      · obtain ⟨_, rfl⟩ := q
        refine ⟨upd_same, ?_⟩
        rw [un od2]
        exact k
end
end L2.K20
set_option Elab.async false
set_option linter.all false
set_option maxRecDepth 100000
set_option maxHeartbeats 4000000
/-! Comprehensions over tuples that are keys; makers with a star. -/
namespace L2.RV
open PySem PySem.Spec PyProof.Rows
theorem pass_E0 {X : Cx} : Passes (L2.CX X.prog X.w) X E0 := fun pins σ H s e s' I h => by
  obtain ⟨a, B, H', cls, d, ea, fl, hok, ub, na, os, ag, he⟩ := h
  exact he.elim
theorem call_reprK {X : Cx} {K : PySem.W.Frag} (hK : X.K = K) (hg : X.A.guards = some []) (hu : X.A.units + 64 < cLine) : CallR X (.builtin "repr") (rRepr K) := hK ▸ call_repr hg hu
/-- f'..' -/
def tFS (ts : List TE) : TE := fun σ H Q => tJs ts Str.empty σ H fun out H1 => Q (.str out) H1
theorem pe_fs {X : Cx} {v1 v2 : Expr} {rest : List Expr} {ts : List TE} {pos : Pos} (h : PJ X (v1 :: v2 :: rest) ts) : PE X (.JoinedStr (v1 :: v2 :: rest) pos) (tFS ts) := pe_joined h
/-- [f(k) for x in xs if p(k)], the xs tuples k -/
theorem lc_keyed {K : PySem.W.Frag} {ti te : TE} {tt : TT} {j : Nat} {σ : L2.St} {H : Hp} {Q : VK} {a : Addr} {bs : List Addr} {ks : List (List L2.Key)} (p : List L2.Key → Bool) (f : List L2.Key → V) (hq : Sq K H a (bs.map V.ref)) (kd : Keyed H bs ks) (small : bs.length ≤ sizeLine) (hi : ∀ R : V → Hp → Prop, R (.ref a) H → ti σ H R)
    (ht : ∀ b k, k ∈ ks → H b = some (.tup (k.map kV)) → ∀ (H1 : Hp) (Q' : Bool → Hp → Prop), Same H H1 → Q' (p k) H1 → tt ((wipe σ [j]).set j (some (.ref b))) H1 Q')
    (he : ∀ b k, k ∈ ks → H b = some (.tup (k.map kV)) → p k = true → ∀ (H1 : Hp) (Q' : VK), Same H H1 → Q' (f k) H1 → te ((wipe σ [j]).set j (some (.ref b))) H1 Q')
    (k : ∀ D, H D = none → Q (.ref D) (upd H D (.lst ((ks.filter p).map f)))) {vs : List Nat} (evs : vs = [j] := by rfl) : tLc (iSq K ti) (gName j) tt te vs σ H Q := by
  subst evs
  refine hi _ ⟨a, bs.map V.ref, rfl, hq, fun J wk D hD => ?_⟩
  refine lc_it wk (fun i H' => H' = upd H D (.lst (((ks.take i).filter p).map f))) rfl (fun i H' _ e => ?_) (fun i x H1 H2 lt e y => ?_) (fun H' e => ?_)
  · rw [e]
    exact .of_same (same_new hD)
  · subst e
    obtain ⟨rfl, hx⟩ := y
    obtain ⟨b, hb, rfl⟩ : ∃ b, bs[i]? = some b ∧ V.ref b = x := by
      rw [List.getElem?_map] at hx
      exact Option.map_eq_some_iff.mp hx
    have lb := (List.getElem?_eq_some_iff.mp hb).1
    have lk : i < ks.length := kd.1 ▸ lb
    have hk : ks[i]? = some ks[i] := List.getElem?_eq_getElem lk
    have hbk := kd.2 i b _ hb hk
    have mem : ks[i] ∈ ks := List.getElem_mem lk
    refine ⟨wipe_set1 σ j _, ht b _ mem hbk _ _ (same_new hD) ?_⟩
    rw [take_snoc hk, List.filter_append, List.map_append]
    cases c : p ks[i] with
    | false =>
      rw [if_neg (by decide)]
      have e : [ks[i]].filter p = [] := by simp [c]
      rw [e, List.map_nil, List.append_nil]
    | true =>
      rw [if_pos rfl]
      refine he b _ mem hbk c _ _ (same_new hD) ⟨_, upd_same, ?_, ?_⟩
      · rw [List.length_map]
        have y := List.length_filter_le p (ks.take i)
        rw [List.length_take] at y
        omega
      · have e : [ks[i]].filter p = [ks[i]] := by simp [c]
        rw [upd_upd, e]
        rfl
  · have e2 : (bs.map V.ref).length = ks.length := by rw [List.length_map]; exact kd.1
    rw [e, e2, List.take_length]
    exact k D hD
theorem Keyed.snoc {H : Hp} {bs : List Addr} {ks : List (List L2.Key)} {b : Addr} {k : List L2.Key} (z : Keyed H bs ks) (e : H b = some (.tup (k.map kV))) : Keyed H (bs ++ [b]) (ks ++ [k]) := by
  have t : Tups H bs (ks.map (·.map kV)) := ⟨by rw [z.1, List.length_map], fun i c v hc hv => by
    rw [List.getElem?_map] at hv
    obtain ⟨k', hk', rfl⟩ := Option.map_eq_some_iff.mp hv
    exact z.2 i c k' hc hk'⟩
  have u := t.snoc e
  refine ⟨by rw [List.length_append, List.length_append, z.1]; rfl, fun i c k' hc hk' => u.2 i c (k'.map kV) hc ?_⟩
  have e2 : ks.map (·.map kV) ++ [k.map kV] = (ks ++ [k]).map (·.map kV) := by rw [List.map_append]; rfl
  rw [e2, List.getElem?_map, hk']
  rfl
/-- [x for x in xs if p(x)], the xs tuples -/
theorem lc_sel {K : PySem.W.Frag} {ti : TE} {tt : TT} {j : Nat} {σ : L2.St} {H : Hp} {Q : VK} {a : Addr} {bs : List Addr} {ks : List (List L2.Key)} (p : List L2.Key → Bool) (hq : Sq K H a (bs.map V.ref)) (kd : Keyed H bs ks) (small : bs.length ≤ sizeLine) (hj : j < σ.length) (hi : ∀ R : V → Hp → Prop, R (.ref a) H → ti σ H R)
    (ht : ∀ b k, k ∈ ks → H b = some (.tup (k.map kV)) → ∀ (H1 : Hp) (Q' : Bool → Hp → Prop), Same H H1 → Q' (p k) H1 → tt ((wipe σ [j]).set j (some (.ref b))) H1 Q')
    (k : ∀ D cs, H D = none → Keyed H cs (ks.filter p) → Q (.ref D) (upd H D (.lst (cs.map V.ref)))) {vs : List Nat} (evs : vs = [j] := by rfl) : tLc (iSq K ti) (gName j) tt (tVar j) vs σ H Q := by
  subst evs
  refine hi _ ⟨a, bs.map V.ref, rfl, hq, fun J wk D hD => ?_⟩
  refine lc_it wk (fun i H' => ∃ cs, H' = upd H D (.lst (cs.map V.ref)) ∧ Keyed H cs ((ks.take i).filter p)) ⟨[], rfl, by rw [List.take_zero]; exact ⟨rfl, fun i b k hb _ => by simp at hb⟩⟩ (fun i H' _ e => ?_) (fun i x H1 H2 lt e y => ?_) (fun H' e => ?_)
  · obtain ⟨cs, rfl, _⟩ := e
    exact .of_same (same_new hD)
  · obtain ⟨cs, rfl, kc⟩ := e
    obtain ⟨rfl, hx⟩ := y
    obtain ⟨b, hb, rfl⟩ : ∃ b, bs[i]? = some b ∧ V.ref b = x := by
      rw [List.getElem?_map] at hx
      exact Option.map_eq_some_iff.mp hx
    have lb := (List.getElem?_eq_some_iff.mp hb).1
    have lk : i < ks.length := kd.1 ▸ lb
    have hk : ks[i]? = some ks[i] := List.getElem?_eq_getElem lk
    have hbk := kd.2 i b _ hb hk
    have mem : ks[i] ∈ ks := List.getElem_mem lk
    have lw : j < (wipe σ [j]).length := by rw [wipe_length]; exact hj
    refine ⟨wipe_set1 σ j _, ht b _ mem hbk _ _ (same_new hD) ?_⟩
    rw [take_snoc hk, List.filter_append]
    cases c : p ks[i] with
    | false =>
      rw [if_neg (by decide)]
      have e : [ks[i]].filter p = [] := by simp [c]
      rw [e, List.append_nil]
      exact ⟨cs, rfl, kc⟩
    | true =>
      rw [if_pos rfl]
      have e : [ks[i]].filter p = [ks[i]] := by simp [c]
      rw [e]
      refine ⟨.ref b, List.getElem?_set_self lw, cs.map V.ref, upd_same, ?_, cs ++ [b], ?_, kc.snoc hbk⟩
      · have y := List.length_filter_le p (ks.take i)
        rw [List.length_take] at y
        have z := kc.1
        rw [List.length_map]
        omega
      · rw [upd_upd, List.map_append]
        rfl
  · obtain ⟨cs, rfl, kc⟩ := e
    have e2 : (bs.map V.ref).length = ks.length := by rw [List.length_map]; exact kd.1
    rw [e2, List.take_length] at kc
    exact k D cs hD kc
section
variable {P : Program} {w : World} {K : PySem.W.Frag} {mg : Str → Option Value} {base : Heap} {CX : CXT} {k : Nat} {x qual pv p1 p2 : Str} {params : Arguments} {body : List Stmt} {scope : Scope} {f : Addr} {fd : FuncData} {N : List Str} {sp : Sp}
/-- what a body shows of def f(a, b, *v) -/
theorem starOk2 (F : FunD K x qual params body scope [] [] f fd) (S : FnScope N [p1, p2, pv] scope) (hCX : StX.CXUp CX)
    (h0 : ∀ (kV doc pm : Value) (an : Option Addr) (cdv ct a b : Value), bindArgs (PySem.W.fnOf x qual params body scope .none kV doc pm an cdv ct) ⟨[a, b], []⟩ = (newTuple [] >>= fun t => pure [(p1, a), (p2, b), (pv, t)]))
    (h1 : ∀ (kV doc pm : Value) (an : Option Addr) (cdv ct a b r : Value) (rs : List Value), bindArgs (PySem.W.fnOf x qual params body scope .none kV doc pm an cdv ct) ⟨a :: b :: r :: rs, []⟩ = (newTuple (r :: rs) >>= fun t => pure [(p1, a), (p2, b), (pv, t)]))
    (hbody : ∀ (cdv : Value) (A : Around) (outer : List Env) (s : Shared) (H : Hp) (vs : List V) (Q : VK) (E : XK), Room k (A.deeper (envOfC qual scope s.heap.objs.size f cdv)) → sp vs H Q E →
      ∃ t, PSs (cxOf CX P w K mg base N qual scope f cdv A outer s H E) body t ∧ t { nx := fun _ H' => Q .non H', rt := Q } (start N vs) H) :
    FnR P w K mg base CX (k + 1) f (fun vs H Q E => ∃ v u rest, vs = v :: u :: rest ∧ rest.length ≤ sizeLine ∧ ∀ p, H p = Option.none → sp [v, u, V.ref p] (upd H p (.tup rest)) Q E) := by
  obtain ⟨oc, od, dV, kV, doc, pm, an, cdv, ct, osl, rfl, lk, hcd, hD, hK⟩ := F.ex
  rcases hD with ⟨_, rfl⟩ | ⟨e, _⟩
  · refine FnR.imp (StX.fn_star (ps := [p1, p2]) (sp := sp) lk hcd S hCX (StX.bind_star2 (B := fun us => bindArgs _ ⟨us, []⟩) (fun a b => h0 kV doc pm an cdv ct a b) (fun a b r rs => h1 kV doc pm an cdv ct a b r rs)) (fun A outer s H vs Q E hr hs => hbody cdv A outer s H vs Q E hr hs)) fun vs H Q E hs => ?_
    obtain ⟨v, u, rest, rfl, l, q⟩ := hs
    exact ⟨[v, u], rest, rfl, rfl, l, q⟩
  · exact absurd rfl e
end
/-- the class x, made with arguments by positions, its __init__ promised so -/
structure MakeR (CX : CXT) (P : Program) (w : World) (K : PySem.W.Frag) (mg : Str → Option Value) (base : Heap) (x : Str) (C : Addr) (k : Nat) (sp : Sp) : Prop where
  ex : ∃ f, Mk K C f ∧ mg x = some (.ref C) ∧ FnR P w K mg base CX k f sp
section
variable {X : Cx} {CX : CXT} {x : Str} {C : Addr} {k : Nat} {sp : Sp} {E : XK} {p pos : Pos} {e : Expr} {es : List Expr} {t : TA}
theorem pe_mkR (D : MakeR CX X.prog X.w X.K X.mg X.base x C k sp) (hr : Room (k + 1) X.A) (hg : Gl X x) (hx : Passes CX X E)
    (ha : PA X (e :: es) t) (hdb : (x == ("__debug__" : Str)) = false := by decide) (he : starEach (e :: es) X.env = (false, eval e X.env) :: starEach es X.env := by rfl) (hpl : (backTo pos (starEach es X.env)).any (·.1) = false := by rfl) :
    PE X (.Call (.Name x p) (e :: es) [] pos) (StX.tMakeR C sp E t) := by
  obtain ⟨f, M, hm, F⟩ := D.ex
  exact StX.pe_makeR M F hr hg hm hx ha hdb he hpl
theorem pe_mkRS (D : MakeR CX X.prog X.w X.K X.mg X.base x C k sp) (hr : Room (k + 1) X.A) (hg : Gl X x) (hx : Passes CX X E)
    (ha : PA X (e :: es) t) (hdb : (x == ("__debug__" : Str)) = false := by decide) (he : starEach (e :: es) X.env = (false, eval e X.env) :: starEach es X.env := by rfl) (hst : (backTo pos (starEach es X.env)).any (·.1) = true := by rfl) :
    PE X (.Call (.Name x p) (e :: es) [] pos) (StX.tMakeR C sp E t) := by
  obtain ⟨f, M, hm, F⟩ := D.ex
  exact pe_makeS2 M F hr hg hm hx ha hdb he hst
end
end L2.RV
set_option Elab.async false
set_option linter.all false
set_option maxRecDepth 100000
set_option maxHeartbeats 4000000
/-! Parts made. -/
namespace L2.K20
open PySem PySem.Spec PyProof.Rows L2.RV
theorem valV_merge (k : List L2.Key) : ∀ (more acc : List (List L2.Key × V)), (valV (mergeT acc more) k).isSome = ((valV acc k).isSome || more.any fun kv => decide (kv.1 = k))
  | [], acc => by simp [mergeT]
  | kv :: r, acc => by
    show (valV (mergeT (putK acc kv.1 kv.2) r) k).isSome = _
    rw [valV_merge k r, valV_put, List.any_cons]
    by_cases e : kv.1 = k
    · rw [if_pos e.symm, decide_eq_true e]
      simp
    · rw [if_neg (fun z => e z.symm), decide_eq_false e, Bool.false_or]
theorem has_keys (p : Pl) (ps : List Pl) (v : V) : (valV (mergeT [] ((ps.map plK).map fun k => (k, v))) (plK p)).isSome = decide (p ∈ ps) := by
  rw [valV_merge]
  show (false || _) = _
  rw [Bool.false_or, List.map_map, List.any_map]
  induction ps with
  | nil => simp
  | cons q r ih =>
    rw [List.any_cons, ih]
    by_cases e : q = p
    · subst e
      simp
    · have n : ¬ plK q = plK p := fun z => e (plK_inj.mp z)
      have n2 : ¬ p = q := fun z => e z.symm
      show (decide (plK q = plK p) || _) = _
      rw [decide_eq_false n, Bool.false_or]
      simp [n2]
def plOf : List L2.Key → Pl
  | [.inr x, .inl i] => (x, i.toNat)
  | _ => ("", 0)
theorem plOf_plK (p : Pl) : plOf (plK p) = p := by
  obtain ⟨x, i⟩ := p
  show ((x, ((i : Nat) : Int).toNat) : Pl) = (x, i)
  rw [Int.toNat_natCast]
theorem filter_plK (ps : List Pl) (f : Pl → Bool) : (ps.map plK).filter (fun k => f (plOf k)) = (ps.filter f).map plK := by
  rw [List.filter_map]
  have e : ((fun k => f (plOf k)) ∘ plK) = f := funext fun p => by
    show f (plOf (plK p)) = f p
    rw [plOf_plK]
  rw [e]
/-- a part, its places' tuple at t, these at bs -/
structure PartC (K : PySem.W.Frag) (H : Hp) (a dx t s : Addr) (bs : List Addr) (ps : List Pl) : Prop where
  obj : H a = some (.ins (He.ga K "Part") dx [("shape", .ref s), ("places", .ref t)])
  own : H dx = some (.own a)
  places : SqT K H t (bs.map V.ref)
  keyed : Keyed H bs (ps.map plK)
theorem Keyed.kp {E : Addr → Prop} {H H' : Hp} {bs : List Addr} {ks : List (List L2.Key)} (z : Keyed H bs ks) (k : Kp E H H') : Keyed H' bs ks := ⟨z.1, fun i b x hb hx => k.fix _ _ True.intro (z.2 i b x hb hx)⟩
theorem PartC.kp {K : PySem.W.Frag} {E : Addr → Prop} {H H' : Hp} {a dx t s : Addr} {bs : List Addr} {ps : List Pl} (c : PartC K H a dx t s bs ps) (k : Kp E H H') : PartC K H' a dx t s bs ps :=
  ⟨k.fix _ _ True.intro c.obj, k.fix _ _ True.intro c.own, SqT.kp c.places k, Keyed.kp c.keyed k⟩
theorem PartC.of {K : PySem.W.Frag} {H : Hp} {a dx t s : Addr} {bs : List Addr} {ps : List Pl} (c : PartC K H a dx t s bs ps) : OfShape K H "Part" a s := ⟨dx, _, c.obj, rfl⟩
/-- the chosen ones of a shape's places, in order -/
def chosen (ks : List Str) (d : Nat) (ps : List Pl) : List Pl := (placesOf ks d).filter fun p => decide (p ∈ ps)
/-- Part.__init__, the places in a tuple at p -/
def spPartIn (K : PySem.W.Frag) : Sp := fun vs H Q _ => ∃ x dx s p bs ks d ps, vs = [.ref x, .ref s, .ref p] ∧ H x = some (.ins (He.ga K "Part") dx []) ∧ H dx = some (.own x) ∧ ShapeAt K H s ks d ∧ H p = some (.tup (bs.map V.ref)) ∧ Keyed H bs (ps.map plK) ∧ (∀ q ∈ ps, q ∈ placesOf ks d) ∧ bs.length ≤ 1000 ∧
  ∀ H' t cs, Keep x H H' → H t = none → PartC K H' x dx t s cs (chosen ks d ps) → Q .non H'
/-- Part(shape, place, ..) -/
def spPart (K : PySem.W.Frag) : Sp := fun vs H Q _ => ∃ x dx s bs ks d ps, vs = .ref x :: .ref s :: bs.map V.ref ∧ H x = some (.ins (He.ga K "Part") dx []) ∧ H dx = some (.own x) ∧ ShapeAt K H s ks d ∧ Keyed H bs (ps.map plK) ∧ (∀ q ∈ ps, q ∈ placesOf ks d) ∧ bs.length ≤ 1000 ∧
  ∀ H' t cs, Keep x H H' → H t = none → PartC K H' x dx t s cs (chosen ks d ps) → Q .non H'
def paFs1 (s : Addr) : List (Str × V) := [("shape", .ref s)]
section
variable {P : Program} {w : World} {K : PySem.W.Frag} {mg : Str → Option Value} {base : Heap} {fd : FuncData}
theorem ok_part_init (T : Top w K mg) (D_check_shape_parts : DefX (L2.CX P w) P w K mg base "check_shape_parts" 3 ["shape"] (spIns K "Shape")) (D_check_places : DefX (L2.CX P w) P w K mg base "check_places" 4 ["shape", "places"] (spPlaces K)) {f : Addr} (F : FunD K "__init__" "Part.__init__" (defArgs s_Part_init) (defBody s_Part_init) (defScope s_Part_init) [] [] f fd) : FnR P w K mg base CX0 6 f (spPart K) := by
  refine FnR.imp (starOk2 (p1 := "self") (p2 := "shape") (pv := "places") (sp := spPartIn K) (k := 5) F sc_Part_init StX.cxUp_none (fun _ _ _ _ _ _ _ _ => rfl) (fun _ _ _ _ _ _ _ _ _ _ => rfl) (fun cdv A outer s H vs Q E hr h => ?_)) (fun vs H Q E h => ?_)
  · obtain ⟨x, dx, sa, p, bs, ks, d, ps, rfl, hx, hdx, s0, hp, kd, mem, few, k⟩ := h
    have hu := hr.units
    refine ⟨_, PSs.nox (pss_cons (ps_expr (pe_callX D_check_shape_parts (hr.mono (by decide)) rfl pass_E0 (pa_cons (pv 1) pa_nil)))
      (pss_cons (ps_expr (pe_callX D_check_places (hr.mono (by decide)) rfl pass_E0 (pa_cons (pv 1) (pa_cons (pv 2) pa_nil))))
      (pss_cons (ps_set (i := 3) sc_Part_init.nd rfl (by first | exact Or.inl rfl | exact Or.inr rfl) (pe_dcT (own := [("place", 4)]) (g := gName 4) (tt := tYes) (Nat.lt_of_le_of_lt (Nat.le_add_right _ _) hu) (by rfl) sc_Part_init.nd (pi_sqK (K := K) rfl (pv 2)) (blkOk_by (own := [("place", 4)]) (N := ["self", "shape", "places", "held", "place"]) (sc := defScope s_Part_init) (by decide +kernel)) (fun _ _ _ _ _ => by exact (pg_name (i := 4) sc_Part_init.nd rfl (by first | exact Or.inl rfl | exact Or.inr rfl))) (fun _ _ _ _ _ => by exact pts_nil) (fun _ _ _ _ _ => by exact (pv 4)) (fun _ _ _ _ _ => by exact pe_bl)))
      (pss_cons (ps_fld (pv 0) (pv 1) rfl)
      (pss_one (ps_fld (pv 0) (pe_callTy call_tuple_of rfl T.n_tuple (by decide +kernel) (pa_cons (pe_lc (own := [("place", 4)]) (g := gName 4) (by rfl) sc_Part_init.nd (pi_sqK (K := K) rfl (pe_fldK (K := K) rfl (pv 1) rfl)) (blkOk_by (own := [("place", 4)]) (N := ["self", "shape", "places", "held", "place"]) (sc := defScope s_Part_init) (by decide +kernel)) (fun _ _ _ _ _ => by exact (pg_name (i := 4) sc_Part_init.nd rfl (by first | exact Or.inl rfl | exact Or.inr rfl))) (fun _ _ _ _ _ => by exact (pts_one (pt_cmp (pc_din (Nat.lt_of_le_of_lt (Nat.add_le_add_left (by decide) _) hu) (pv 4) (pv 3)) rfl))) (fun _ _ _ _ _ => by exact (pv 4))) pa_nil)) rfl)))))), ?_⟩
    refine ⟨_, rfl, sa, rfl, s0.ins, ?_⟩
    refine ⟨_, rfl, _, rfl, sa, p, ks, d, bs, rfl, s0, .inl (SqT.of hp), fun b hb => ?_, ?_⟩
    · obtain ⟨i, hi⟩ := List.mem_iff_getElem?.mp hb
      have lt := (List.getElem?_eq_some_iff.mp hi).1
      have lp : i < ps.length := by rw [kd.1, List.length_map] at lt; exact lt
      exact ⟨ps[i], mem _ (List.getElem_mem lp), kd.2 i b (plK ps[i]) hi (by rw [List.getElem?_map, List.getElem?_eq_getElem lp]; rfl)⟩
    have ne : dx ≠ x := fun z => by rw [z, hx] at hdx; cases hdx
    have npx : p ≠ x := fun z => by rw [z, hx] at hp; cases hp
    -- held
    with_reducible refine setsU ?_
    refine dc_pure (j := 4) (fun _ => true) (fun _ => .bl true) (.inl (SqT.of hp)) kd (by rw [sizeLine_eq]; omega) (by show 4 < 5; decide) (fun R r => ⟨_, rfl, r⟩) (fun b key _ _ H1 Q' s q => q) (fun b key _ _ _ H1 Q' s q => q) fun D hD => ?_
    rw [filt_all]
    have s1 := same_new (o := .dT (mergeT [] ((ps.map plK).map fun k => (k, V.bl true)))) hD
    have eD : (upd H D (.dT (mergeT [] ((ps.map plK).map fun k => (k, V.bl true))))) D = some (.dT (mergeT [] ((ps.map plK).map fun k => (k, V.bl true)))) := upd_same
    generalize upd H D (.dT (mergeT [] ((ps.map plK).map fun k => (k, V.bl true)))) = H1 at s1 eD ⊢
    -- shape
    with_reducible refine sfldsU ?_
    have hx1 := s1 _ _ hx
    refine ⟨_, rfl, _, rfl, x, _, dx, [], rfl, hx1, T.k_Part, T.a_Part_shape, (by decide : (0 : Nat) < 1000), ?_⟩
    show sFld _ _ _ _ _ _ (upd H1 x (.ins _ dx (paFs1 sa)))
    have k2 : Keep x H (upd H1 x (.ins (He.ga K "Part") dx (paFs1 sa))) := keep_up (Keep.of s1) hx
    have hx2 : (upd H1 x (.ins (He.ga K "Part") dx (paFs1 sa))) x = some (.ins (He.ga K "Part") dx (paFs1 sa)) := upd_same
    have nDx : D ≠ x := fun z => by rw [z, hx1] at eD; cases eD
    have eD2 : (upd H1 x (.ins (He.ga K "Part") dx (paFs1 sa))) D = some (.dT (mergeT [] ((ps.map plK).map fun k => (k, V.bl true)))) := (upd_ne nDx).trans eD
    have s02 : ShapeAt K (upd H1 x (.ins (He.ga K "Part") dx (paFs1 sa))) sa ks d := by
      obtain ⟨e1, t1, t2, t3, cs, c⟩ := s0.core
      have keep : ∀ {b : Addr} {o : HO}, H b = some o → (∀ y z u, o ≠ .ins y z u) → (upd H1 x (.ins (He.ga K "Part") dx (paFs1 sa))) b = some o := fun {b o} e n => k2 b o (fun z => by rw [z, hx] at e; exact n _ _ _ (Option.some.inj e).symm) e
      have kr : ∀ {b : Addr} {o : HO}, Rd H b o → (∀ y z u, o ≠ .ins y z u) → Rd (upd H1 x (.ins (He.ga K "Part") dx (paFs1 sa))) b o := fun {b o} e n => by
        rcases e with e | ⟨od, e⟩
        · exact .inl (keep e n)
        · exact .inr ⟨od, keep e fun _ _ _ z => nomatch z⟩
      have nsa : sa ≠ x := fun z => by
        have := c.obj
        rw [z, hx] at this
        injection this with this
        injection this with _ _ w3
        cases w3
      exact ShapeC.at_ ⟨k2 _ _ nsa c.obj, keep c.own fun _ _ _ z => (nomatch z), kr c.names (fun _ _ _ z => (nomatch z)), kr c.places (fun _ _ _ z => (nomatch z)), c.len, fun i q b hq hb => keep (c.each i q b hq hb) fun _ _ _ z => (nomatch z), kr c.index fun _ _ _ z => (nomatch z), c.good, c.ok⟩
    generalize upd H1 x (.ins (He.ga K "Part") dx (paFs1 sa)) = H2 at k2 hx2 eD2 s02 ⊢
    clear s1 eD hx1
    -- places
    with_reducible refine sfldU ?_
    with_reducible refine cb1U ?_
    obtain ⟨e1, t1, t2, t3, cs, c⟩ := s02.core
    have lcs : cs.length ≤ 36 := by rw [c.len, length_places]; exact c.ok.few
    refine lc_sel (j := 4) (fun key => decide (plOf key ∈ ps)) (.inl (.inl c.places)) c.keyed (by rw [sizeLine_eq]; omega) (by show 4 < 5; decide) (fun R r => ⟨_, rfl, sa, _, e1, _, _, rfl, c.obj, T.k_Shape, T.a_Shape_places, rfl, r⟩) (fun b key hk hb H3 Q' s3 q => ?_) fun D2 es hD2 kes => ?_
    · obtain ⟨pl, _, rfl⟩ := List.mem_map.mp hk
      rw [plOf_plK] at q
      refine ⟨_, rfl, _, rfl, D, _, rfl, .inr ⟨_, plK pl, b, .inl (s3 _ _ eD2), rfl, s3 _ _ hb, rfl⟩, _, rfl, ?_⟩
      rw [has_keys]
      exact q
    rw [filter_plK (placesOf ks d) (fun p => decide (p ∈ ps))] at kes
    refine ⟨D2, es.map V.ref, rfl, .inl ⟨.inl (.inl upd_same), fun t ht => ?_⟩⟩
    have s4 := (same_new hD2).trans (same_new (o := .tup (es.map V.ref)) ht)
    have et : (upd (upd H2 D2 (.lst (es.map V.ref))) t (.tup (es.map V.ref))) t = some (.tup (es.map V.ref)) := upd_same
    generalize upd (upd H2 D2 (.lst (es.map V.ref))) t (.tup (es.map V.ref)) = H4 at s4 et ⊢
    have hx4 := s4 _ _ hx2
    have nt : t ≠ x := fun z => by rw [z, hx4] at et; cases et
    refine ⟨_, rfl, x, _, dx, paFs1 sa, rfl, hx4, T.k_Part, T.a_Part_places, (by decide : (1 : Nat) < 1000), ?_⟩
    have k5 : Keep x H (upd H4 x (.ins (He.ga K "Part") dx [("shape", .ref sa), ("places", .ref t)])) := keep_up (k2.trans (Keep.of s4)) hx
    have nht : H t = none := by
      have z := (same_new (o := .lst (es.map V.ref)) hD2).free ht
      cases c : H t with
      | none => rfl
      | some o =>
        have := k2 t o nt c
        rw [z] at this
        cases this
    refine k _ t es k5 nht ⟨upd_same, k5 _ _ ne hdx, .inl (.inl ((upd_ne nt).trans et)), kes.1, fun i b key hb hk => ?_⟩
    have z := s4 _ _ (kes.2 i b key hb hk)
    have n : b ≠ x := fun y => by rw [y, hx4] at z; cases z
    exact (upd_ne n).trans z
  · obtain ⟨x, dx, s, bs, ks, d, ps, rfl, hx, hdx, s0, kd, mem, few, k⟩ := h
    refine ⟨_, _, bs.map V.ref, rfl, by rw [List.length_map, sizeLine_eq]; omega, fun p hp => ?_⟩
    have sn := same_new (o := .tup (bs.map V.ref)) hp
    exact ⟨x, dx, s, p, bs, ks, d, ps, rfl, sn _ _ hx, sn _ _ hdx, s0.kp (.of sn), upd_same, kd.same sn, mem, few, fun H' t cs kp ht pc => k H' t cs ((Keep.of sn).trans kp) (sn.free ht) pc⟩
end
end L2.K20
set_option Elab.async false
set_option linter.all false
set_option maxRecDepth 100000
set_option maxHeartbeats 4000000
/-! Tables and questions made. -/
namespace L2.K20
open PySem PySem.Spec PyProof.Rows L2.RV
/-- the weight at p is not nought -/
def nz (ws : List (Pl × Int)) (p : Pl) : Bool := !decide (V.int (atD ws p) = V.int 0)
/-- what a table or a question keeps of them -/
def bare (ks : List Str) (d : Nat) (ws : List (Pl × Int)) : List (Pl × Int) := ((placesOf ks d).filter (nz ws)).map fun p => (p, atD ws p)
theorem valV_nz {ws : List (Pl × Int)} {p : Pl} (h : nz ws p = true) : valV (plD ws) (plK p) = some (V.int (atD ws p)) := by
  have z := valV_plD (p := p) ws
  cases c : valV (plD ws) (plK p) with
  | none =>
    rw [c] at z
    unfold nz at h
    rw [← z] at h
    exact absurd h (by decide)
  | some v =>
    rw [c] at z
    rw [← z]
    rfl
theorem plD_bare {ks : List Str} {d : Nat} (ok : ShOk ks d) (ws : List (Pl × Int)) : mergeT [] ((((placesOf ks d).map plK).filter (fun k => nz ws (plOf k))).map fun k => (k, V.int (atD ws (plOf k)))) = plD (bare ks d ws) := by
  rw [filter_plK, List.map_map, mergeT_new]
  · unfold plD bare
    rw [List.map_map, List.nil_append]
    refine List.map_congr_left fun p _ => ?_
    show (plK p, V.int (atD ws (plOf (plK p)))) = (plK p, V.int (atD ws p))
    rw [plOf_plK]
  · rw [List.map_map]
    have e : ((fun (x : List L2.Key × V) => x.1) ∘ ((fun k => (k, V.int (atD ws (plOf k)))) ∘ plK)) = plK := rfl
    rw [e]
    exact nodup_plK ((nodup_places d ok.nd).sublist List.filter_sublist)
  · exact fun _ _ _ h => absurd h List.not_mem_nil
/-- a table -/
structure TabC (K : PySem.W.Frag) (H : Hp) (a dx t s : Addr) (ws : List (Pl × Int)) : Prop where
  obj : H a = some (.ins (He.ga K "Table") dx [("shape", .ref s), ("amounts", .ref t)])
  own : H dx = some (.own a)
  dic : H t = some (.dT (plD ws))
theorem TabC.held {K : PySem.W.Frag} {H : Hp} {a dx t s : Addr} {ws : List (Pl × Int)} (c : TabC K H a dx t s ws) : Held K H "Table" "amounts" a s ws := ⟨dx, _, t, c.obj, rfl, rfl, .inl c.dic⟩
theorem TabC.of {K : PySem.W.Frag} {H : Hp} {a dx t s : Addr} {ws : List (Pl × Int)} (c : TabC K H a dx t s ws) : OfShape K H "Table" a s := ⟨dx, _, c.obj, rfl⟩
theorem TabC.kx {K : PySem.W.Frag} {E : Addr → Prop} {H H' : Hp} {a dx t s : Addr} {ws : List (Pl × Int)} (c : TabC K H a dx t s ws) (k : Kx E H H') (n : ¬ E t) : TabC K H' a dx t s ws :=
  ⟨k.kp.fix _ _ True.intro c.obj, k.kp.fix _ _ True.intro c.own, k.ex _ _ n c.dic⟩
theorem Held.kp {K : PySem.W.Frag} {H H' : Hp} {x f : Str} {a s : Addr} {ws : List (Pl × Int)} (h : Held K H x f a s ws) (k : Kp0 H H') : Held K H' x f a s ws := by
  obtain ⟨dx, fs, t, e1, e2, e3, e4⟩ := h
  exact ⟨dx, fs, t, k.fix _ _ True.intro e1, e2, e3, k.dt _ _ id e4⟩
/-- a question -/
structure QueC (K : PySem.W.Frag) (H : Hp) (a dx t pt s pdx ptt : Addr) (bs : List Addr) (ws : List (Pl × Int)) (ps : List Pl) : Prop where
  obj : H a = some (.ins (He.ga K "Question") dx [("shape", .ref s), ("weights", .ref t), ("part", .ref pt)])
  own : H dx = some (.own a)
  dic : H t = some (.dT (plD ws))
  part : PartC K H pt pdx ptt s bs ps
theorem QueC.held {K : PySem.W.Frag} {H : Hp} {a dx t pt s pdx ptt : Addr} {bs : List Addr} {ws : List (Pl × Int)} {ps : List Pl} (c : QueC K H a dx t pt s pdx ptt bs ws ps) : Held K H "Question" "weights" a s ws := ⟨dx, _, t, c.obj, rfl, rfl, .inl c.dic⟩
theorem QueC.of {K : PySem.W.Frag} {H : Hp} {a dx t pt s pdx ptt : Addr} {bs : List Addr} {ws : List (Pl × Int)} {ps : List Pl} (c : QueC K H a dx t pt s pdx ptt bs ws ps) : OfShape K H "Question" a s := ⟨dx, _, c.obj, rfl⟩
theorem QueC.kx {K : PySem.W.Frag} {E : Addr → Prop} {H H' : Hp} {a dx t pt s pdx ptt : Addr} {bs : List Addr} {ws : List (Pl × Int)} {ps : List Pl} (c : QueC K H a dx t pt s pdx ptt bs ws ps) (k : Kx E H H') (n : ¬ E t) : QueC K H' a dx t pt s pdx ptt bs ws ps :=
  ⟨k.kp.fix _ _ True.intro c.obj, k.kp.fix _ _ True.intro c.own, k.ex _ _ n c.dic, c.part.kp k.kp⟩
/-- a shape stays where the fields of another object are stored -/
theorem ShapeAt.sto {K : PySem.W.Frag} {H H' : Hp} {x dx s : Addr} {C : Addr} {fs : List (Str × V)} {ks : List Str} {d : Nat} (s0 : ShapeAt K H s ks d) (hx : H x = some (.ins C dx fs)) (k : Keep x H H') (ne : s ≠ x) : ShapeAt K H' s ks d := by
  obtain ⟨e1, t1, t2, t3, cs, c⟩ := s0.core
  have keep : ∀ {b : Addr} {o : HO}, H b = some o → (∀ y z u, o ≠ .ins y z u) → H' b = some o := fun {b o} e n => k b o (fun z => by rw [z, hx] at e; exact n _ _ _ (Option.some.inj e).symm) e
  have kr : ∀ {b : Addr} {o : HO}, Rd H b o → (∀ y z u, o ≠ .ins y z u) → Rd H' b o := fun {b o} e n => by
    rcases e with e | ⟨od, e⟩
    · exact .inl (keep e n)
    · exact .inr ⟨od, keep e fun _ _ _ z => nomatch z⟩
  exact ShapeC.at_ ⟨k _ _ ne c.obj, keep c.own fun _ _ _ z => (nomatch z), kr c.names (fun _ _ _ z => (nomatch z)), kr c.places (fun _ _ _ z => (nomatch z)), c.len, fun i q b hq hb => keep (c.each i q b hq hb) fun _ _ _ z => (nomatch z), kr c.index fun _ _ _ z => (nomatch z), c.good, c.ok⟩
theorem ShapeAt.nex {K : PySem.W.Frag} {H : Hp} {x dx s : Addr} {C : Addr} {ks : List Str} {d : Nat} (s0 : ShapeAt K H s ks d) (hx : H x = some (.ins C dx [])) : s ≠ x := fun z => by
  obtain ⟨e1, t1, t2, t3, cs, c⟩ := s0.core
  have := c.obj
  rw [z, hx] at this
  injection this with this
  injection this with _ _ w3
  cases w3
/-- Table.__init__ -/
def spTable (K : PySem.W.Frag) : Sp := fun vs H Q _ => ∃ x dx s y ks d ws, vs = [.ref x, .ref s, y] ∧ H x = some (.ins (He.ga K "Table") dx []) ∧ H dx = some (.own x) ∧ ShapeAt K H s ks d ∧ ((y = .non ∧ ws = []) ∨ ∃ t, y = .ref t ∧ H t = some (.dT (plD ws))) ∧ (∀ z ∈ ws, z.1 ∈ placesOf ks d) ∧
  ∀ H' t, Keep x H H' → H t = none → TabC K H' x dx t s (bare ks d ws) → Q .non H'
section
variable {P : Program} {w : World} {K : PySem.W.Frag} {mg : Str → Option Value} {base : Heap} {fd : FuncData}
theorem ok_table_init (T : Top w K mg) (D_check_shape_tables : DefX (L2.CX P w) P w K mg base "check_shape_tables" 3 ["shape"] (spIns K "Shape")) (D_check_amounts : DefX (L2.CX P w) P w K mg base "check_amounts" 4 ["shape", "amounts"] (spAmounts K)) (R_BadTable : RzX P w K mg base "BadTable" (ca K 5) ["part"]) {f : Addr} (F : FunD K "__init__" "Table.__init__" (defArgs s_Table_init) (defBody s_Table_init) (defScope s_Table_init) [.non] [] f fd) : FnOk P w K mg base (L2.CX P w) 5 f fd ["self", "shape", "amounts"] (spTable K) := by
  refine F.ok sc_Table_init (fun vs H Q E h => ?_) (fun cdv A outer s H vs Q E hr h => ?_)
  · obtain ⟨x, dx, sa, y, ks, d, ws, rfl, _⟩ := h
    rfl
  · obtain ⟨x, dx, sa, y, ks, d, ws, rfl, hx, hdx, s0, hy, mem, k⟩ := h
    have hu := hr.units
    refine ⟨_, (pss_cons (ps_expr (pe_callX D_check_shape_tables (hr.mono (by decide)) rfl pass_E0 (pa_cons (pv 1) pa_nil)))
      (pss_cons (ps_if (PW.pt (pw_and (pt_cmpR op_notN (pv 2) pe_non (nomark _)) (pw_and1 (pt_not (pt_val (pe_callB call_isi rfl T.n_isinstance (by decide +kernel) (pa_cons (pv 2) (pa_cons (pe_bltn (v := .ty "dict") (u := .type "dict") rfl T.n_dict (by decide +kernel) rfl) pa_nil)))))))) (pss_one (ps_rz R_BadTable rfl (hr.mono (by decide)) (takes_of rfl rfl rfl rfl) rfl (pa_cons pe_str pa_nil))) pss_nil)
      (pss_cons (ps_set (i := 3) sc_Table_init.nd rfl (by first | exact Or.inl rfl | exact Or.inr rfl) (pe_ifExp (pt_cmpR op_isN (pv 2) pe_non (nomark _)) pe_dnewT (pv 2)))
      (pss_cons (ps_expr (pe_callX D_check_amounts (hr.mono (by decide)) rfl pass_E0 (pa_cons (pv 1) (pa_cons (pv 3) pa_nil))))
      (pss_cons (ps_fld (pv 0) (pv 1) rfl)
      (pss_one (ps_fld (pv 0) (pe_dcT (own := [("place", 4)]) (g := gName 4) (Nat.lt_of_le_of_lt (Nat.le_add_right _ _) hu) (by rfl) sc_Table_init.nd (pi_sqK (K := K) rfl (pe_fldK (K := K) rfl (pv 1) rfl)) (blkOk_by (own := [("place", 4)]) (N := ["self", "shape", "amounts", "given", "place"]) (sc := defScope s_Table_init) (by decide +kernel)) (fun _ _ _ _ _ => by exact (pg_name (i := 4) sc_Table_init.nd rfl (by first | exact Or.inl rfl | exact Or.inr rfl))) (fun _ _ _ _ _ => by exact (pts_one (pt_cmpR (op_diffK (K := K) rfl hu) (pe_dget2 (Nat.lt_of_le_of_lt (Nat.add_le_add_left (by decide) _) hu) (pv 3) (pv 4) pe_int ⟨rfl, rfl, rfl, rfl⟩) pe_int (nomark _)))) (fun _ _ _ _ _ => by exact (pv 4)) (fun _ _ _ _ _ => by exact (pe_dget (Nat.lt_of_le_of_lt (Nat.add_le_add_left (by decide) _) hu) (pv 3) (pv 4) (fun _ _ => rfl)))) rfl))))))), ?_⟩
    refine ⟨_, rfl, sa, rfl, s0.ins, ?_⟩
    have ne : dx ≠ x := fun z => by rw [z, hx] at hdx; cases hdx
    have nsx := s0.nex hx
    -- given: where it stands, the heap behind
    have mid : ∀ (t : Addr) (H1 : Hp), Same H H1 → H1 t = some (.dT (plD ws)) → (tSeq (tDrop (tCall (spAmounts K) [] E0 (tCons (tVar 1) (tCons (tVar 3) tNil)))) (tSeq (sFld K (tVar 0) (tVar 1) "shape") (sFld K (tVar 0) (tDcT (iSq K (tFld K (tVar 1) "places")) (gName 4) (tTest (tOp (rDiff K) (tDGet2 (tVar 3) (tVar 4) (tC (.int 0))) (tC (.int 0)))) (tVar 4) (tDGet (tVar 3) (tVar 4)) [4]) "amounts"))) { nx := fun _ H' => Q .non H', rt := Q } [some (.ref x), some (.ref sa), some y, some (.ref t), none] H1 := by
      intro t H1 s1 et
      have hx1 := s1 _ _ hx
      have sh1 := s0.kp (.of s1)
      refine ⟨_, rfl, _, rfl, sa, t, ks, d, ws, rfl, sh1, et, mem, ?_⟩
      with_reducible refine sfldsU ?_
      refine ⟨_, rfl, _, rfl, x, _, dx, [], rfl, hx1, T.k_Table, T.a_Table_shape, (by decide : (0 : Nat) < 1000), ?_⟩
      show sFld _ _ _ _ _ _ (upd H1 x (.ins _ dx (paFs1 sa)))
      have k2 : Keep x H (upd H1 x (.ins (He.ga K "Table") dx (paFs1 sa))) := keep_up (Keep.of s1) hx
      have hx2 : (upd H1 x (.ins (He.ga K "Table") dx (paFs1 sa))) x = some (.ins (He.ga K "Table") dx (paFs1 sa)) := upd_same
      have ntx : t ≠ x := fun z => by rw [z, hx1] at et; cases et
      have et2 : (upd H1 x (.ins (He.ga K "Table") dx (paFs1 sa))) t = some (.dT (plD ws)) := (upd_ne ntx).trans et
      have sh2 : ShapeAt K (upd H1 x (.ins (He.ga K "Table") dx (paFs1 sa))) sa ks d := s0.sto hx k2 nsx
      generalize upd H1 x (.ins (He.ga K "Table") dx (paFs1 sa)) = H2 at k2 hx2 et2 sh2 ⊢
      with_reducible refine sfldU ?_
      obtain ⟨e1, t1, t2, t3, cs, c⟩ := sh2.core
      have lcs : cs.length ≤ 36 := by rw [c.len, length_places]; exact c.ok.few
      refine dc_pure (j := 4) (fun key => nz ws (plOf key)) (fun key => .int (atD ws (plOf key))) (.inl (.inl c.places)) c.keyed (by rw [sizeLine_eq]; omega) (by show 4 < 5; decide) (fun R r => ⟨_, rfl, sa, _, e1, _, _, rfl, c.obj, T.k_Shape, T.a_Shape_places, rfl, r⟩) (fun b key hk hb H3 Q' s3 q => ?_) (fun b key hk hb hp H3 Q' s3 q => ?_) fun D hD => ?_
      · obtain ⟨pl, _, rfl⟩ := List.mem_map.mp hk
        rw [plOf_plK] at q
        refine ⟨_, rfl, t, rfl, .inr ⟨_, .inl (s3 _ _ et2)⟩, _, rfl, _, (.inr ⟨_, plK pl, b, .inl (s3 _ _ et2), rfl, s3 _ _ hb, rfl⟩), ?_⟩
        rw [valV_plD]
        exact .inl ⟨rfl, _, rfl, q⟩
      · obtain ⟨pl, _, rfl⟩ := List.mem_map.mp hk
        rw [plOf_plK] at q hp
        exact ⟨_, rfl, _, rfl, t, _, rfl, .inr ⟨_, plK pl, b, .inl (s3 _ _ et2), rfl, s3 _ _ hb, (valV_nz hp).symm⟩, q⟩
      rw [plD_bare c.ok]
      have s4 := same_new (o := .dT (plD (bare ks d ws))) hD
      have hx4 := s4 _ _ hx2
      have nDx : D ≠ x := fun z => by rw [z, hx2] at hD; cases hD
      refine ⟨_, rfl, x, _, dx, paFs1 sa, rfl, hx4, T.k_Table, T.a_Table_amounts, (by decide : (1 : Nat) < 1000), ?_⟩
      have k5 : Keep x H (upd (upd H2 D (.dT (plD (bare ks d ws)))) x (.ins (He.ga K "Table") dx [("shape", .ref sa), ("amounts", .ref D)])) := keep_up (k2.trans (Keep.of s4)) hx
      have nh : H D = none := by
        cases c : H D with
        | none => rfl
        | some o =>
          have := k2 D o nDx c
          rw [hD] at this
          cases this
      exact k _ D k5 nh ⟨upd_same, k5 _ _ ne hdx, (upd_ne nDx).trans upd_same⟩
    rcases hy with ⟨rfl, rfl⟩ | ⟨t, rfl, et⟩
    · refine ⟨_, rfl, rfl, _, rfl, ?_⟩
      refine ite2 (fun c => absurd c (by decide)) (fun _ => ?_)
      refine ite2 (fun c => absurd c (by decide)) (fun _ => ?_)
      refine ⟨_, rfl, rfl, _, rfl, ?_⟩
      refine ite2 (fun _ => ?_) (fun c => absurd rfl c)
      exact fun p hp => mid p _ (same_new hp) upd_same
    · refine ⟨_, rfl, rfl, _, rfl, ?_⟩
      refine ite2 (fun _ => ?_) (fun c => absurd rfl c)
      refine ⟨_, rfl, _, _, _, _, _, rfl, .ty "dict", .base (.dT et), kit_ty (by decide +kernel : kitB "dict" "dict" = some true), _, rfl, ?_⟩
      refine ite2 (fun c => absurd c (by decide)) (fun _ => ?_)
      refine ⟨_, rfl, rfl, _, rfl, ?_⟩
      refine ite2 (fun c => absurd (of_decide_eq_true c) (fun z => nomatch z)) (fun _ => ?_)
      exact ⟨_, rfl, mid t H (fun _ _ z => z) et⟩
end
end L2.K20
set_option Elab.async false
set_option linter.all false
set_option maxRecDepth 100000
set_option maxHeartbeats 4000000
/-! Questions made. -/
namespace L2.K20
open PySem PySem.Spec PyProof.Rows L2.RV
def nzs (ks : List Str) (d : Nat) (ws : List (Pl × Int)) : List Pl := (placesOf ks d).filter (nz ws)
theorem chosen_nzs (ks : List Str) (d : Nat) (ws : List (Pl × Int)) : chosen ks d (nzs ks d ws) = nzs ks d ws := by
  unfold chosen nzs
  refine List.filter_congr fun p hp => ?_
  cases c : nz ws p with
  | true => exact decide_eq_true (List.mem_filter.mpr ⟨hp, c⟩)
  | false => exact decide_eq_false fun z => by rw [(List.mem_filter.mp z).2] at c; cases c
theorem bare_nzs (ks : List Str) (d : Nat) (ws : List (Pl × Int)) : bare ks d ws = (nzs ks d ws).map fun p => (p, atD ws p) := rfl
/-- Question.__init__ -/
def spQuestion (K : PySem.W.Frag) : Sp := fun vs H Q _ => ∃ x dx s t ks d ws, vs = [.ref x, .ref s, .ref t] ∧ H x = some (.ins (He.ga K "Question") dx []) ∧ H dx = some (.own x) ∧ ShapeAt K H s ks d ∧ H t = some (.dT (plD ws)) ∧ (∀ z ∈ ws, z.1 ∈ placesOf ks d) ∧
  ∀ H' t' pt pdx ptt bs, Keep x H H' → H t' = none → QueC K H' x dx t' pt s pdx ptt bs (bare ks d ws) (nzs ks d ws) → Q .non H'
def quFs2 (s t : Addr) : List (Str × V) := [("shape", .ref s), ("weights", .ref t)]
theorem free_keep {H H2 : Hp} {x D : Addr} (k : Keep x H H2) (n : D ≠ x) (h : H2 D = none) : H D = none := by
  cases c : H D with
  | none => rfl
  | some o =>
    have := k D o n c
    rw [h] at this
    cases this
section
variable {P : Program} {w : World} {K : PySem.W.Frag} {mg : Str → Option Value} {base : Heap} {fd : FuncData}
theorem ok_question_init (T : Top w K mg) (D_check_shape_questions : DefX (L2.CX P w) P w K mg base "check_shape_questions" 3 ["shape"] (spIns K "Shape")) (D_check_amounts : DefX (L2.CX P w) P w K mg base "check_amounts" 4 ["shape", "amounts"] (spAmounts K)) (C_Part : MakeR CX0 P w K mg base "Part" (He.ga K "Part") 6 (spPart K)) (R_BadQuestion : RzX P w K mg base "BadQuestion" (ca K 7) ["part"]) {f : Addr} (F : FunD K "__init__" "Question.__init__" (defArgs s_Question_init) (defBody s_Question_init) (defScope s_Question_init) [] [] f fd) : FnOk P w K mg base (L2.CX P w) 8 f fd ["self", "shape", "weights"] (spQuestion K) := by
  refine F.ok sc_Question_init (fun vs H Q E h => ?_) (fun cdv A outer s H vs Q E hr h => ?_)
  · obtain ⟨x, dx, sa, t, ks, d, ws, rfl, _⟩ := h
    rfl
  · obtain ⟨x, dx, sa, t, ks, d, ws, rfl, hx, hdx, s0, et, mem, k⟩ := h
    have hu := hr.units
    refine ⟨_, (pss_cons (ps_expr (pe_callX D_check_shape_questions (hr.mono (by decide)) rfl pass_E0 (pa_cons (pv 1) pa_nil)))
      (pss_cons (ps_if (pt_not (pt_val (pe_callB call_isi rfl T.n_isinstance (by decide +kernel) (pa_cons (pv 2) (pa_cons (pe_bltn (v := .ty "dict") (u := .type "dict") rfl T.n_dict (by decide +kernel) rfl) pa_nil))))) (pss_one (ps_rz R_BadQuestion rfl (hr.mono (by decide)) (takes_of rfl rfl rfl rfl) rfl (pa_cons pe_str pa_nil))) pss_nil)
      (pss_cons (ps_expr (pe_callX D_check_amounts (hr.mono (by decide)) rfl pass_E0 (pa_cons (pv 1) (pa_cons (pv 2) pa_nil))))
      (pss_cons (ps_setLc (i := 3) (own := [("place", 4)]) (g := gName 4) (by rfl) sc_Question_init.nd rfl rfl (sw_true rfl rfl rfl (by decide +kernel)) (pi_sqK (K := K) rfl (pe_fldK (K := K) rfl (pv 1) rfl)) (blkOk_by (own := [("place", 4)]) (N := ["self", "shape", "weights", "places", "place"]) (sc := defScope s_Question_init) (by decide +kernel)) (fun _ _ _ _ _ => by exact (pg_name (i := 4) sc_Question_init.nd rfl (by first | exact Or.inl rfl | exact Or.inr rfl))) (fun _ _ _ _ _ => by exact (pts_one (pt_cmpR (op_diffK (K := K) rfl hu) (pe_dget2 (Nat.lt_of_le_of_lt (Nat.add_le_add_left (by decide) _) hu) (pv 2) (pv 4) pe_int ⟨rfl, rfl, rfl, rfl⟩) pe_int (nomark _)))) (fun _ _ _ _ _ => by exact (pv 4)))
      (pss_cons (ps_fld (pv 0) (pv 1) rfl)
      (pss_cons (ps_fld (pv 0) (pe_dcT (own := [("place", 4)]) (g := gName 4) (tt := tYes) (Nat.lt_of_le_of_lt (Nat.le_add_right _ _) hu) (by rfl) sc_Question_init.nd (pi_sqK (K := K) rfl (pv 3)) (blkOk_by (own := [("place", 4)]) (N := ["self", "shape", "weights", "places", "place"]) (sc := defScope s_Question_init) (by decide +kernel)) (fun _ _ _ _ _ => by exact (pg_name (i := 4) sc_Question_init.nd rfl (by first | exact Or.inl rfl | exact Or.inr rfl))) (fun _ _ _ _ _ => by exact pts_nil) (fun _ _ _ _ _ => by exact (pv 4)) (fun _ _ _ _ _ => by exact (pe_dget (Nat.lt_of_le_of_lt (Nat.add_le_add_left (by decide) _) hu) (pv 2) (pv 4) (fun _ _ => rfl)))) rfl)
      (pss_one (ps_fld (pv 0) (pe_mkRS C_Part (hr.mono (by decide)) rfl pass_CX0 (pa_cons (pv 1) (StX.pa_star (pv 3) pa_nil))) rfl)))))))), ?_⟩
    have ne : dx ≠ x := fun z => by rw [z, hx] at hdx; cases hdx
    have nsx := s0.nex hx
    have ntx : t ≠ x := fun z => by rw [z, hx] at et; cases et
    refine ⟨_, rfl, sa, rfl, s0.ins, ?_⟩
    refine ⟨_, rfl, _, _, _, _, _, rfl, .ty "dict", .base (.dT et), kit_ty (by decide +kernel : kitB "dict" "dict" = some true), _, rfl, ?_⟩
    refine ite2 (fun c => absurd c (by decide)) (fun _ => ?_)
    refine ⟨_, rfl, _, rfl, sa, t, ks, d, ws, rfl, s0, et, mem, ?_⟩
    -- places
    with_reducible refine setsU ?_
    obtain ⟨e1, t1, t2, t3, cs, c⟩ := s0.core
    have lcs : cs.length ≤ 36 := by rw [c.len, length_places]; exact c.ok.few
    refine lc_sel (j := 4) (fun key => nz ws (plOf key)) (.inl (.inl c.places)) c.keyed (by rw [sizeLine_eq]; omega) (by show 4 < 5; decide) (fun R r => ⟨_, rfl, sa, _, e1, _, _, rfl, c.obj, T.k_Shape, T.a_Shape_places, rfl, r⟩) (fun b key hk hb H3 Q' s3 q => ?_) fun L es hL kes => ?_
    · obtain ⟨pl, _, rfl⟩ := List.mem_map.mp hk
      rw [plOf_plK] at q
      refine ⟨_, rfl, t, rfl, .inr ⟨_, .inl (s3 _ _ et)⟩, _, rfl, _, (.inr ⟨_, plK pl, b, .inl (s3 _ _ et), rfl, s3 _ _ hb, rfl⟩), ?_⟩
      rw [valV_plD]
      exact .inl ⟨rfl, _, rfl, q⟩
    rw [filter_plK (placesOf ks d) (nz ws)] at kes
    have les : es.length ≤ 36 := by
      rw [kes.1, List.length_map]
      have z := List.length_filter_le (nz ws) (placesOf ks d)
      have y := c.ok.few
      rw [length_places] at z
      omega
    have s1 := same_new (o := .lst (es.map V.ref)) hL
    have eL : (upd H L (.lst (es.map V.ref))) L = some (.lst (es.map V.ref)) := upd_same
    have kes1 := kes.same s1
    generalize upd H L (.lst (es.map V.ref)) = H1 at s1 eL kes1 ⊢
    have hx1 := s1 _ _ hx
    have nLx : L ≠ x := fun z => by rw [z, hx1] at eL; cases eL
    -- shape
    with_reducible refine sfldsU ?_
    refine ⟨_, rfl, _, rfl, x, _, dx, [], rfl, hx1, T.k_Question, T.a_Question_shape, (by decide : (0 : Nat) < 1000), ?_⟩
    show tSeq _ _ _ _ (upd H1 x (.ins _ dx (paFs1 sa)))
    have k2 : Keep x H (upd H1 x (.ins (He.ga K "Question") dx (paFs1 sa))) := keep_up (Keep.of s1) hx
    have hx2 : (upd H1 x (.ins (He.ga K "Question") dx (paFs1 sa))) x = some (.ins (He.ga K "Question") dx (paFs1 sa)) := upd_same
    have et2 : (upd H1 x (.ins (He.ga K "Question") dx (paFs1 sa))) t = some (.dT (plD ws)) := k2 _ _ ntx et
    have eL2 : (upd H1 x (.ins (He.ga K "Question") dx (paFs1 sa))) L = some (.lst (es.map V.ref)) := (upd_ne nLx).trans eL
    have kes2 : Keyed (upd H1 x (.ins (He.ga K "Question") dx (paFs1 sa))) es ((nzs ks d ws).map plK) := ⟨kes1.1, fun i b key hb hk => by
      have z := kes1.2 i b key hb hk
      have n : b ≠ x := fun y => by rw [y, hx1] at z; cases z
      exact (upd_ne n).trans z⟩
    generalize upd H1 x (.ins (He.ga K "Question") dx (paFs1 sa)) = H2 at k2 hx2 et2 eL2 kes2 ⊢
    clear s1 eL hx1 kes1
    -- weights
    with_reducible refine sfldsU ?_
    refine dc_pure (j := 4) (fun _ => true) (fun key => .int (atD ws (plOf key))) (.inr (SqL.of eL2)) kes2 (by rw [sizeLine_eq]; omega) (by show 4 < 5; decide) (fun R r => ⟨_, rfl, r⟩) (fun b key _ _ H3 Q' s3 q => q) (fun b key hk hb _ H3 Q' s3 q => ?_) fun D hD => ?_
    · obtain ⟨pl, hpl, rfl⟩ := List.mem_map.mp hk
      rw [plOf_plK] at q
      exact ⟨_, rfl, _, rfl, t, _, rfl, .inr ⟨_, plK pl, b, .inl (s3 _ _ et2), rfl, s3 _ _ hb, (valV_nz (List.mem_filter.mp hpl).2).symm⟩, q⟩
    have eq : mergeT [] ((((nzs ks d ws).map plK).filter fun _ => true).map fun k => (k, V.int (atD ws (plOf k)))) = plD (bare ks d ws) := by
      rw [← plD_bare c.ok, filt_all, filter_plK (placesOf ks d) (nz ws)]
      rfl
    rw [eq]
    have s3 := same_new (o := .dT (plD (bare ks d ws))) hD
    have eD3 : (upd H2 D (.dT (plD (bare ks d ws)))) D = some (.dT (plD (bare ks d ws))) := upd_same
    have nh : H D = none := free_keep k2 (fun z => by rw [z, hx2] at hD; cases hD) hD
    generalize upd H2 D (.dT (plD (bare ks d ws))) = H3 at s3 eD3 ⊢
    have hx3 := s3 _ _ hx2
    have nDx : D ≠ x := fun z => by rw [z, hx3] at eD3; cases eD3
    refine ⟨_, rfl, x, _, dx, paFs1 sa, rfl, hx3, T.k_Question, T.a_Question_weights, (by decide : (1 : Nat) < 1000), ?_⟩
    show sFld _ _ _ _ _ _ (upd H3 x (.ins _ dx (quFs2 sa D)))
    have k4 : Keep x H (upd H3 x (.ins (He.ga K "Question") dx (quFs2 sa D))) := keep_up (k2.trans (Keep.of s3)) hx
    have hx4 : (upd H3 x (.ins (He.ga K "Question") dx (quFs2 sa D))) x = some (.ins (He.ga K "Question") dx (quFs2 sa D)) := upd_same
    have eD4 : (upd H3 x (.ins (He.ga K "Question") dx (quFs2 sa D))) D = some (.dT (plD (bare ks d ws))) := (upd_ne nDx).trans eD3
    have eL4 : (upd H3 x (.ins (He.ga K "Question") dx (quFs2 sa D))) L = some (.lst (es.map V.ref)) := (upd_ne nLx).trans (s3 _ _ eL2)
    have sh4 : ShapeAt K (upd H3 x (.ins (He.ga K "Question") dx (quFs2 sa D))) sa ks d := s0.sto hx k4 nsx
    have kes4 : Keyed (upd H3 x (.ins (He.ga K "Question") dx (quFs2 sa D))) es ((nzs ks d ws).map plK) := ⟨kes2.1, fun i b key hb hk => by
      have z := s3 _ _ (kes2.2 i b key hb hk)
      have n : b ≠ x := fun y => by rw [y, hx3] at z; cases z
      exact (upd_ne n).trans z⟩
    generalize upd H3 x (.ins (He.ga K "Question") dx (quFs2 sa D)) = H4 at k4 hx4 eD4 eL4 sh4 kes4 ⊢
    clear k2 hx2 et2 eL2 kes2 s3 eD3 hx3
    -- part
    with_reducible refine sfldU ?_
    refine ⟨_, rfl, _, rfl, L, _, rfl, .inr (SqL.of eL4), fun px pdx npx npdx npd => ?_⟩
    have s5 := (same_new (o := .own px) npdx).trans (same_new (o := .ins (He.ga K "Part") pdx []) (H := upd H4 pdx (.own px)) (by rw [upd_ne (Ne.symm npd)]; exact npx))
    refine ⟨px, pdx, sa, es, ks, d, nzs ks d ws, by rw [List.append_nil], upd_same, (upd_ne npd).trans upd_same, sh4.kp (.of s5), kes4.same s5, fun q hq => (List.mem_filter.mp hq).1, by omega, fun H6 ptt bs k6 _ pc => ⟨rfl, ?_⟩⟩
    rw [chosen_nzs] at pc
    have nxp : x ≠ px := fun z => by rw [← z, hx4] at npx; cases npx
    have hx6 := k6 _ _ nxp (s5 _ _ hx4)
    have nDp : D ≠ px := fun z => by rw [← z, eD4] at npx; cases npx
    have eD6 := k6 _ _ nDp (s5 _ _ eD4)
    refine ⟨_, rfl, x, _, dx, quFs2 sa D, rfl, hx6, T.k_Question, T.a_Question_part, (by decide : (2 : Nat) < 1000), ?_⟩
    have k46 : Keep x H H6 := fun b o n e => by
      have z := s5 _ _ (k4 b o n e)
      have n2 : b ≠ px := fun y => by
        have := k4 b o n e
        rw [y, npx] at this
        cases this
      exact k6 b o n2 z
    have k7 : Keep x H (upd H6 x (.ins (He.ga K "Question") dx [("shape", .ref sa), ("weights", .ref D), ("part", .ref px)])) := keep_up k46 hx
    have pn : px ≠ x := Ne.symm nxp
    have pc7 : PartC K (upd H6 x (.ins (He.ga K "Question") dx [("shape", .ref sa), ("weights", .ref D), ("part", .ref px)])) px pdx ptt sa bs (nzs ks d ws) := by
      have kk : ∀ {b : Addr} {o : HO}, H6 b = some o → (∀ y z u, o ≠ .ins y z u) → (upd H6 x (.ins (He.ga K "Question") dx [("shape", .ref sa), ("weights", .ref D), ("part", .ref px)])) b = some o := fun {b o} e n => by
        have nb : b ≠ x := fun z => by rw [z, hx6] at e; exact n _ _ _ (Option.some.inj e).symm
        exact (upd_ne nb).trans e
      refine ⟨(upd_ne pn).trans pc.obj, kk pc.own fun _ _ _ z => (nomatch z), pc.places.imp (fun z => ?_) id, pc.keyed.1, fun i b key hb hk => kk (pc.keyed.2 i b key hb hk) fun _ _ _ z => (nomatch z)⟩
      rcases z with z | ⟨od, z⟩
      · exact .inl (kk z fun _ _ _ y => nomatch y)
      · exact .inr ⟨od, kk z fun _ _ _ y => nomatch y⟩
    exact k _ D px pdx ptt bs k7 nh ⟨upd_same, k7 _ _ ne hdx, (upd_ne nDx).trans eD6, pc7⟩
end
end L2.K20
set_option Elab.async false
set_option linter.all false
set_option maxRecDepth 100000
set_option maxHeartbeats 4000000
/-! A question asked; two questions compared. -/
namespace L2.K20
open PySem PySem.Spec PyProof.Rows L2.RV
theorem shapeEq_self {ks : List Str} (d : Nat) (h : (ks.all fun x => PyData.strOk x) = true) : shapeEq ks d ks d = true := by
  unfold shapeEq
  rw [same_data (shaped_keys h)]
  simp
def total (ws am : List (Pl × Int)) : Int := (ws.map fun z => z.2 * atD am z.1).sum
/-- numbers of at most 110 bits -/
def Bits (ws : List (Pl × Int)) : Prop := ∀ z ∈ ws, z.2.natAbs < 2 ^ 110
theorem Bits.at_ {ws : List (Pl × Int)} (b : Bits ws) (p : Pl) : (atD ws p).natAbs < 2 ^ 110 := by
  unfold atD
  cases c : ws.find? fun z => decide (z.1 = p) with
  | none => show (0 : Int).natAbs < 2 ^ 110; decide
  | some z => exact b z (List.mem_of_find?_eq_some c)
/-- an object of x whose dict by places, under f, stands at t and is not locked -/
def HeldX (K : PySem.W.Frag) (H : Hp) (x f : Str) (a s t : Addr) (ws : List (Pl × Int)) : Prop := ∃ dx fs, H a = some (.ins (He.ga K x) dx fs) ∧ fs.lookup ("shape" : Str) = some (V.ref s) ∧ fs.lookup f = some (V.ref t) ∧ H t = some (.dT (plD ws))
theorem HeldX.held {K : PySem.W.Frag} {H : Hp} {x f : Str} {a s t : Addr} {ws : List (Pl × Int)} (h : HeldX K H x f a s t ws) : Held K H x f a s ws := by
  obtain ⟨dx, fs, e1, e2, e3, e4⟩ := h
  exact ⟨dx, fs, t, e1, e2, e3, .inl e4⟩
theorem Held.of {K : PySem.W.Frag} {H : Hp} {x f : Str} {a s : Addr} {ws : List (Pl × Int)} (h : Held K H x f a s ws) : OfShape K H x a s := by
  obtain ⟨dx, fs, t, e1, e2, _⟩ := h
  exact ⟨dx, fs, e1, e2⟩
theorem QueC.hx {K : PySem.W.Frag} {H : Hp} {a dx t pt s pdx ptt : Addr} {bs : List Addr} {ws : List (Pl × Int)} {ps : List Pl} (c : QueC K H a dx t pt s pdx ptt bs ws ps) : HeldX K H "Question" "weights" a s t ws := ⟨dx, _, c.obj, rfl, rfl, c.dic⟩
theorem TabC.hx {K : PySem.W.Frag} {H : Hp} {a dx t s : Addr} {ws : List (Pl × Int)} (c : TabC K H a dx t s ws) : HeldX K H "Table" "amounts" a s t ws := ⟨dx, _, c.obj, rfl, rfl, c.dic⟩
/-- question(table), of one shape -/
def spCall (K : PySem.W.Frag) : Sp := fun vs H Q _ => ∃ q a s t ks d ws am, vs = [.ref q, .ref a] ∧ HeldX K H "Question" "weights" q s t ws ∧ Held K H "Table" "amounts" a s am ∧ ShapeAt K H s ks d ∧ (∀ z ∈ ws, z.1 ∈ placesOf ks d) ∧ ws.length ≤ 36 ∧ Bits ws ∧ Bits am ∧
  ∀ H', Same H H' → Q (.int (total ws am)) H'
/-- question == other, of the same class or of another -/
def spQEq (K : PySem.W.Frag) : Sp := fun vs H Q _ => ∃ q y s ks d ws, vs = [.ref q, y] ∧ Held K H "Question" "weights" q s ws ∧ ShapeAt K H s ks d ∧
  ((∃ u r ls e vs, y = .ref u ∧ Held K H "Question" "weights" u r vs ∧ ShapeAt K H r ls e ∧ (∃ t t', HeldX K H "Question" "weights" q s t ws ∧ HeldX K H "Question" "weights" u r t' vs) ∧ Q (.bl (shapeEq ks d ls e && dtSame (plD ws) (plD vs))) H) ∨
   (∃ t, TyX K H y (.type t) ∧ PySem.W.kitOne K (.type t) (.ref (He.ga K "Question")) = some false ∧ Q (.bl false) H))
theorem ints_plD (ws : List (Pl × Int)) : intsT (plD ws) := fun p hp => by
  unfold plD at hp
  obtain ⟨z, _, rfl⟩ := List.mem_map.mp hp
  exact ⟨z.2, rfl⟩
section
variable {P : Program} {w : World} {K : PySem.W.Frag} {mg : Str → Option Value} {base : Heap} {fd : FuncData}
theorem ok_question_call (T : Top w K mg) (D_is_table_of : Def P w K mg base "is_table_of" 3 ["value", "shape"] (spIsOf K "Table")) (S_Table_getitem : MethS (L2.CX P w) P w K mg base (He.ga K "Table") "__getitem__" 4 ["self", "at"] (spAt K "Table" "amounts")) (R_BadTable : RzX P w K mg base "BadTable" (ca K 5) ["part"]) {f : Addr} (F : FunD K "__call__" "Question.__call__" (defArgs s_Question_call) (defBody s_Question_call) (defScope s_Question_call) [] [] f fd) : FnOk P w K mg base (L2.CX P w) 6 f fd ["self", "table"] (spCall K) := by
  refine F.ok sc_Question_call (fun vs H Q E h => ?_) (fun cdv A outer s H vs Q E hr h => ?_)
  · obtain ⟨q, a, sa, t, ks, d, ws, am, rfl, _⟩ := h
    rfl
  · obtain ⟨q, a, sa, t, ks, d, ws, am, rfl, hq, ha, s0, mem, few, bw, ba, k⟩ := h
    have hu := hr.units
    refine ⟨_, (pss_cons (ps_if (pt_not (pt_val (pe_callD D_is_table_of (hr.mono (by decide)) rfl (pa_cons (pv 1) (pa_cons (pe_fldK (K := K) rfl (pv 0) rfl) pa_nil))))) (pss_one (ps_rz R_BadTable rfl (hr.mono (by decide)) (takes_of rfl rfl rfl rfl) rfl (pa_cons pe_str pa_nil))) pss_nil)
      (pss_one (ps_ret (pe_callB (cr_sum rfl) rfl T.n_sum (by decide +kernel) (pa_cons (pe_lock (pe_lc (own := [("place", 2), ("weight", 3)]) (g := gTup K 2 (gCons (gName 2) (gCons (gName 3) gNil))) (tt := tYes) (by rfl) sc_Question_call.nd (pi_itemsT (pe_fldK (K := K) rfl (pv 0) rfl)) (blkOk_by (own := [("place", 2), ("weight", 3)]) (N := ["self", "table", "place", "weight"]) (sc := defScope s_Question_call) (by decide +kernel)) (fun _ _ _ _ _ => by exact (pg_tup rfl (pgs_cons (pg_name (i := 2) sc_Question_call.nd rfl (by first | exact Or.inl rfl | exact Or.inr rfl)) (pgs_cons (pg_name (i := 3) sc_Question_call.nd rfl (by first | exact Or.inl rfl | exact Or.inr rfl)) pgs_nil)))) (fun _ _ _ _ _ => by exact pts_nil) (fun _ _ _ _ _ => by exact (pe_op op_mulW (pv 3) (pe_ixO S_Table_getitem (hr.mono (by decide)) pass_E0 (pv 1) (pv 2)))))) pa_nil))))), ?_⟩
    obtain ⟨dx, fs, e1, e2, e3, e4⟩ := hq
    refine ⟨_, rfl, _, rfl, q, _, dx, _, _, rfl, e1, T.k_Question, T.a_Question_shape, e2, a, sa, sa, ks, d, ks, d, rfl, ha.of, s0, s0, _, rfl, ?_⟩
    rw [shapeEq_self d s0.good]
    refine ite2 (fun c => absurd c (by decide)) (fun _ => ?_)
    with_reducible refine nxU ?_
    with_reducible refine retU ?_
    with_reducible refine cb1U ?_
    refine ⟨t, .dT (plD ws), e4, True.intro, fun od => ?_⟩
    have lk : Kp0 H (upd H t (.frz od (.dT (plD ws)))) := Kp.lock e4
    have e1l := lk.fix _ (.ins _ _ _) True.intro e1
    refine ⟨_, rfl, q, _, dx, _, _, rfl, e1l, T.k_Question, T.a_Question_weights, e3, t, od, plD ws, rfl, upd_same, fun D hD => ?_⟩
    have lw : (plD ws).length = ws.length := List.length_map ..
    refine lc_it walk_itemsT (fun i H' => H' D = some (.lst ((ws.take i).map fun z => V.int (z.2 * atD am z.1))) ∧ Same (upd H t (.frz od (.dT (plD ws)))) H') ⟨upd_same, same_new hD⟩ (fun i H' _ e => e.2 _ _ upd_same) (fun i x H1 H2 lt e y => ?_) (fun H' e => ?_)
    · obtain ⟨hDl, sm⟩ := e
      obtain ⟨T', b, key, v, hkv, rfl, hb, nT, rfl⟩ := y
      have hz : ws[i]? = some ws[i] := List.getElem?_eq_getElem (by rw [lw] at lt; exact lt)
      have ez : key = plK ws[i].1 ∧ v = V.int ws[i].2 := by
        unfold plD at hkv
        rw [List.getElem?_map, hz] at hkv
        cases hkv
        exact ⟨rfl, rfl⟩
      obtain ⟨rfl, rfl⟩ := ez
      have mz : ws[i] ∈ ws := List.getElem_mem _
      have nD : D ≠ T' := fun z => by rw [z, nT] at hDl; cases hDl
      have sm2 := sm.trans (same_new (o := .tup [.ref b, .int ws[i].2]) nT)
      refine ⟨T', [.ref b, .int ws[i].2], rfl, SqT.of upd_same, rfl, _, _, rfl, _, _, rfl, rfl, rfl, ?_⟩
      with_reducible refine yesU ?_
      have ha2 : Held K (upd H1 T' (.tup [.ref b, .int ws[i].2])) "Table" "amounts" a sa am := Held.kp ha (lk.trans (.of sm2))
      have s02 : ShapeAt K (upd H1 T' (.tup [.ref b, .int ws[i].2])) sa ks d := s0.kp (lk.trans (.of sm2))
      have hb2 : PlAt (upd H1 T' (.tup [.ref b, .int ws[i].2])) b ws[i].1 := (upd_ne (fun z => by rw [z, nT] at hb; cases hb)).trans hb
      obtain ⟨dy, gs, t', g1, _⟩ := id ha2
      refine ⟨_, rfl, _, rfl, _, rfl, a, dy, gs, rfl, g1, a, b, sa, ks, d, am, ws[i].1, rfl, ha2, s02, hb2, mem _ mz, _, _, rfl, rfl, wide_mul (bw _ mz) (ba.at_ _) (by decide) (by decide) (by decide), ?_⟩
      refine ⟨_, (upd_ne nD).trans hDl, ?_, ?_, fun c o ec => ?_⟩
      · rw [List.length_map, List.length_take, sizeLine_eq]
        omega
      · rw [upd_same, take_snoc hz, List.map_append]
        rfl
      · have nc : c ≠ D := ne_of_none ec hD
        exact (upd_ne nc).trans (sm2 c o ec)
    · obtain ⟨hDl, sm⟩ := e
      rw [lw, List.take_length] at hDl
      refine ⟨sm _ _ upd_same, ?_⟩
      have nDt : D ≠ t := fun z => by rw [z, upd_same] at hD; cases hD
      refine ⟨D, ws.map fun z => z.2 * atD am z.1, rfl, .inl (.inl ((upd_ne nDt).trans ?_)), ?_⟩
      · rw [hDl, List.map_map]
        rfl
      · refine k _ fun b o ob => ?_
        by_cases n : b = t
        · subst n
          rw [upd_same, ← e4, ob]
        · exact (upd_ne n).trans (sm _ _ ((upd_ne n).trans ob))
theorem ok_question_eq (T : Top w K mg) (S_Shape_eq : MethS CX0 P w K mg base (He.ga K "Shape") "__eq__" 2 ["self", "other"] (spShapeEq K)) {f : Addr} (F : FunD K "__eq__" "Question.__eq__" (defArgs s_Question_eq) (defBody s_Question_eq) (defScope s_Question_eq) [] [] f fd) : FnOk P w K mg base CX0 4 f fd ["self", "other"] (spQEq K) := by
  refine F.ok sc_Question_eq (fun vs H Q E h => ?_) (fun cdv A outer s H vs Q E hr h => ?_)
  · obtain ⟨q, y, sa, ks, d, ws, rfl, _⟩ := h
    rfl
  · obtain ⟨q, y, sa, ks, d, ws, rfl, hq, s0, h⟩ := h
    have hu := hr.units
    refine ⟨_, PSs.nox (pss_one (ps_ret (pe_and (pe_callB call_isi rfl T.n_isinstance (by decide +kernel) (pa_cons (pv 1) (pa_cons (pe_glob (v := .ref (He.ga K "Question")) rfl T.g_Question rfl) pa_nil))) (pe_and (pe_cmpR (op_eqO S_Shape_eq (hr.mono (by decide)) pass_CX0) (pe_fldK (K := K) rfl (pv 0) rfl) (pe_fldK (K := K) rfl (pv 1) rfl) (nomark _)) (pe_one (pe_cmpR (op_eqT (Nat.lt_of_le_of_lt (Nat.add_le_add_left (by decide) _) hu)) (pe_fldK (K := K) rfl (pv 0) rfl) (pe_fldK (K := K) rfl (pv 1) rfl) (nomark _))))))), ?_⟩
    rcases h with ⟨u, r, ls, e, vs, rfl, hv, s1, ⟨t, t', hx, hx'⟩, k⟩ | ⟨t, ty, kt, k⟩
    · obtain ⟨ty, kt⟩ := ins_kit T.o_Question T.o_Question T.k_Question hv.of.ins (by decide)
      refine ⟨_, rfl, _, _, _, _, _, rfl, .own _, ty, kt, _, rfl, ?_⟩
      obtain ⟨dx, fs, e1, e2, e3, e4⟩ := hx
      obtain ⟨dy, gs, g1, g2, g3, g4⟩ := hx'
      obtain ⟨dz, hs, i1⟩ := s0.ins
      obtain ⟨ty2, _⟩ := ins_kit T.o_Shape T.o_Shape T.k_Shape s1.ins (by decide)
      refine ⟨_, rfl, q, _, dx, _, _, rfl, e1, T.k_Question, T.a_Question_shape, e2, _, rfl, u, _, dy, _, _, rfl, g1, T.k_Question, T.a_Question_shape, g2, sa, dz, hs, _, rfl, i1, ty2, (T.o_Shape.kit "Shape" (by decide)).2, ?_⟩
      refine ⟨sa, r, ks, d, ls, e, rfl, s0, s1, _, rfl, ?_⟩
      cases c : shapeEq ks d ls e with
      | false =>
        rw [c] at k
        exact k
      | true =>
        rw [c, Bool.true_and] at k
        exact ⟨_, rfl, q, _, dx, _, _, rfl, e1, T.k_Question, T.a_Question_weights, e3, _, rfl, u, _, dy, _, _, rfl, g1, T.k_Question, T.a_Question_weights, g3, t, t', _, _, rfl, rfl, e4, g4, ints_plD _, ints_plD _, k⟩
    · exact ⟨_, rfl, _, _, _, _, _, rfl, .own _, ty, kt, _, rfl, k⟩
end
end L2.K20
set_option Elab.async false
set_option linter.all false
set_option maxRecDepth 100000
set_option maxHeartbeats 4000000
/-! Parts and questions made of others. -/
namespace L2.K20
open PySem PySem.Spec PyProof.Rows L2.RV
theorem made_same {H H' : Hp} {x dx : Addr} {o : HO} (nx : H x = none) (ndx : H dx = none) (k : Keep x (upd (upd H dx (.own x)) x o) H') : Same H H' := fun b ob e => by
  have n1 : b ≠ x := ne_of_none e nx
  have n2 : b ≠ dx := ne_of_none e ndx
  exact k b ob n1 ((upd_ne n1).trans ((upd_ne n2).trans e))
theorem made_free {H : Hp} {x dx t : Addr} {o : HO} (h : (upd (upd H dx (.own x)) x o) t = none) : H t = none := by
  by_cases n1 : t = x
  · rw [n1, upd_same] at h
    cases h
  · rw [upd_ne n1] at h
    by_cases n2 : t = dx
    · rw [n2, upd_same] at h
      cases h
    · rw [upd_ne n2] at h
      exact h
theorem made_mid {H : Hp} {x dx : Addr} {o : HO} (nx : H x = none) (ndx : H dx = none) : Same H (upd (upd H dx (.own x)) x o) := fun b ob e => (upd_ne (ne_of_none e nx)).trans ((upd_ne (ne_of_none e ndx)).trans e)
theorem chosen_nil (ks : List Str) (d : Nat) : chosen ks d [] = [] := by
  unfold chosen
  rw [List.filter_eq_nil_iff]
  intro p _
  simp
/-- Part.none(shape) -/
def spPartNone (K : PySem.W.Frag) : Sp := fun vs H Q _ => ∃ s ks d, vs = [.ref s] ∧ ShapeAt K H s ks d ∧ ∀ H' x dx t cs, Same H H' → PartC K H' x dx t s cs [] → Q (.ref x) H'
/-- part | other, of one shape -/
def spPartOr (K : PySem.W.Frag) : Sp := fun vs H Q _ => ∃ a b s ks d dxa ta bsa ps dxb tb bsb qs, vs = [.ref a, .ref b] ∧ PartC K H a dxa ta s bsa ps ∧ PartC K H b dxb tb s bsb qs ∧ ShapeAt K H s ks d ∧ (∀ p ∈ ps, p ∈ placesOf ks d) ∧ (∀ p ∈ qs, p ∈ placesOf ks d) ∧ ps.length ≤ 40 ∧ qs.length ≤ 40 ∧
  ∀ H' x dx t cs, Same H H' → PartC K H' x dx t s cs (chosen ks d (ps ++ qs)) → Q (.ref x) H'
/-- Question.of(part) -/
def spQOf (K : PySem.W.Frag) : Sp := fun vs H Q _ => ∃ a s ks d dxa ta bsa ps, vs = [.ref a] ∧ PartC K H a dxa ta s bsa ps ∧ ShapeAt K H s ks d ∧ (∀ p ∈ ps, p ∈ placesOf ks d) ∧ ps.Nodup ∧ ps.length ≤ 40 ∧
  ∀ H' x dx t pt pdx ptt bs, Same H H' → H t = none → QueC K H' x dx t pt s pdx ptt bs (bare ks d (ps.map fun p => (p, 1))) (nzs ks d (ps.map fun p => (p, 1))) → Q (.ref x) H'
/-- Question.none(shape) -/
def spQNone (K : PySem.W.Frag) : Sp := fun vs H Q _ => ∃ s ks d, vs = [.ref s] ∧ ShapeAt K H s ks d ∧ ∀ H' x dx t pt pdx ptt bs, Same H H' → H t = none → QueC K H' x dx t pt s pdx ptt bs (bare ks d []) (nzs ks d []) → Q (.ref x) H'
theorem plD_ones {ps : List Pl} (nd : ps.Nodup) : mergeT [] (((ps.map plK).filter fun _ => true).map fun k => (k, V.int 1)) = plD (ps.map fun p => (p, 1)) := by
  rw [filt_all, List.map_map, mergeT_new]
  · unfold plD
    rw [List.map_map, List.nil_append]
    rfl
  · rw [List.map_map]
    exact nodup_plK nd
  · exact fun _ _ _ h => absurd h List.not_mem_nil
section
variable {P : Program} {w : World} {K : PySem.W.Frag} {mg : Str → Option Value} {base : Heap} {fd : FuncData}
theorem ok_part_none (T : Top w K mg) (C_Part : MakeR CX0 P w K mg base "Part" (He.ga K "Part") 6 (spPart K)) {f : Addr} (F : FunD K "none" "Part.none" (defArgs s_Part_none) (defBody s_Part_none) (defScope s_Part_none) [] [] f fd) : FnOk P w K mg base CX0 8 f fd ["shape"] (spPartNone K) := by
  refine F.ok sc_Part_none (fun vs H Q E h => ?_) (fun cdv A outer s H vs Q E hr h => ?_)
  · obtain ⟨sa, ks, d, rfl, _⟩ := h
    rfl
  · obtain ⟨sa, ks, d, rfl, s0, k⟩ := h
    refine ⟨_, PSs.nox (pss_one (ps_ret (pe_mkR C_Part (hr.mono (by decide)) rfl pass_CX0 (pa_cons (pv 0) pa_nil)))), ?_⟩
    refine ⟨_, rfl, fun x dx nx ndx nd => ?_⟩
    refine ⟨x, dx, sa, [], ks, d, [], rfl, upd_same, (upd_ne nd).trans upd_same, s0.kp (.of (made_mid nx ndx)), ⟨rfl, fun i b key hb _ => by simp at hb⟩, fun _ h => absurd h List.not_mem_nil, Nat.zero_le _, fun H' t cs k1 ht pc => ⟨rfl, ?_⟩⟩
    rw [chosen_nil] at pc
    exact k H' x dx t cs (made_same nx ndx k1) pc
theorem ok_part_or (T : Top w K mg) (D_check_other_parts : DefX (L2.CX P w) P w K mg base "check_other_parts" 4 ["part", "other"] (spOther K "Part")) (C_Part : MakeR CX0 P w K mg base "Part" (He.ga K "Part") 6 (spPart K)) {f : Addr} (F : FunD K "__or__" "Part.__or__" (defArgs s_Part_or) (defBody s_Part_or) (defScope s_Part_or) [] [] f fd) : FnOk P w K mg base CX0 8 f fd ["self", "other"] (spPartOr K) := by
  refine F.ok sc_Part_or (fun vs H Q E h => ?_) (fun cdv A outer s H vs Q E hr h => ?_)
  · obtain ⟨a, b, sa, ks, d, dxa, ta, bsa, ps, dxb, tb, bsb, qs, rfl, _⟩ := h
    rfl
  · obtain ⟨a, b, sa, ks, d, dxa, ta, bsa, ps, dxb, tb, bsb, qs, rfl, pa, pb, s0, ma, mb, la, lb, k⟩ := h
    refine ⟨_, PSs.nox (pss_cons (ps_expr (pe_callX D_check_other_parts (hr.mono (by decide)) rfl pass_E0 (pa_cons (pv 0) (pa_cons (pv 1) pa_nil))))
      (pss_cons (ps_set (i := 2) sc_Part_or.nd rfl (by first | exact Or.inl rfl | exact Or.inr rfl) (pe_lstN (StX.pa_star (pe_fldK (K := K) rfl (pv 0) rfl) (StX.pa_star (pe_fldK (K := K) rfl (pv 1) rfl) pa_nil))))
      (pss_one (ps_ret (pe_mkRS C_Part (hr.mono (by decide)) rfl pass_CX0 (pa_cons (pe_fldK (K := K) rfl (pv 0) rfl) (StX.pa_star (pv 2) pa_nil))))))), ?_⟩
    refine ⟨_, rfl, _, rfl, a, b, sa, sa, ks, d, ks, d, rfl, pa.of, pb.of, s0, s0, shapeEq_self d s0.good, ?_⟩
    have ea : bsa.length = ps.length := by rw [pa.keyed.1, List.length_map]
    have eb : bsb.length = qs.length := by rw [pb.keyed.1, List.length_map]
    refine ⟨_, rfl, a, _, dxa, _, _, rfl, pa.obj, T.k_Part, T.a_Part_places, rfl, ta, _, rfl, .inl pa.places, _, rfl, b, _, dxb, _, _, rfl, pb.obj, T.k_Part, T.a_Part_places, rfl, tb, _, rfl, .inl pb.places, ?_⟩
    dsimp only [tNil]
    rw [List.append_nil, ← List.map_append]
    refine ⟨by rw [List.length_map, List.length_append, sizeLine_eq]; omega, fun L hL _ => ?_⟩
    have s1 := same_new (o := .lst ((bsa ++ bsb).map V.ref)) hL
    refine ⟨_, rfl, a, _, dxa, _, _, rfl, s1 _ _ pa.obj, T.k_Part, T.a_Part_shape, rfl, _, rfl, L, _, rfl, .inr (SqL.of upd_same), fun x dx nx ndx nd => ?_⟩
    have kd : Keyed H (bsa ++ bsb) ((ps ++ qs).map plK) := by
      have t1 : Tups H bsa ((ps.map plK).map (·.map kV)) := ⟨by rw [pa.keyed.1, List.length_map (f := fun (x : List L2.Key) => x.map kV)], fun i c v hc hv => by
        rw [List.getElem?_map] at hv
        obtain ⟨k', hk', rfl⟩ := Option.map_eq_some_iff.mp hv
        exact pa.keyed.2 i c k' hc hk'⟩
      refine ⟨by rw [List.length_append, List.length_map, List.length_append, ea, eb], fun i c key hc hk => ?_⟩
      rw [List.map_append] at hk
      rcases Nat.lt_or_ge i bsa.length with lt | ge
      · rw [List.getElem?_append_left lt] at hc
        rw [List.getElem?_append_left (by rw [← pa.keyed.1]; exact lt)] at hk
        exact pa.keyed.2 i c key hc hk
      · rw [List.getElem?_append_right ge] at hc
        rw [List.getElem?_append_right (by rw [← pa.keyed.1]; exact ge), ← pa.keyed.1] at hk
        exact pb.keyed.2 _ c key hc hk
    have sm := s1.trans (made_mid (o := .ins (He.ga K "Part") dx []) nx ndx)
    refine ⟨x, dx, sa, bsa ++ bsb, ks, d, ps ++ qs, by rw [List.append_nil], upd_same, (upd_ne nd).trans upd_same, s0.kp (.of sm), kd.same sm, fun p hp => ?_, by rw [List.length_append]; omega, fun H' t cs k1 ht pc => ⟨rfl, k H' x dx t cs (s1.trans (made_same nx ndx k1)) pc⟩⟩
    rcases List.mem_append.mp hp with z | z
    · exact ma p z
    · exact mb p z
theorem ok_question_of (T : Top w K mg) (C_Question : MakeX (L2.CX P w) P w K mg base "Question" (He.ga K "Question") 8 ["self", "shape", "weights"] [] (spQuestion K)) (R_BadQuestion : RzX P w K mg base "BadQuestion" (ca K 7) ["part"]) {f : Addr} (F : FunD K "of" "Question.of" (defArgs s_Question_of) (defBody s_Question_of) (defScope s_Question_of) [] [] f fd) : FnOk P w K mg base (L2.CX P w) 10 f fd ["part"] (spQOf K) := by
  refine F.ok sc_Question_of (fun vs H Q E h => ?_) (fun cdv A outer s H vs Q E hr h => ?_)
  · obtain ⟨a, sa, ks, d, dxa, ta, bsa, ps, rfl, _⟩ := h
    rfl
  · obtain ⟨a, sa, ks, d, dxa, ta, bsa, ps, rfl, pa, s0, ma, ndp, la, k⟩ := h
    have hu := hr.units
    refine ⟨_, (pss_cons (ps_if (pt_not (pt_val (pe_callB call_isi rfl T.n_isinstance (by decide +kernel) (pa_cons (pv 0) (pa_cons (pe_glob (v := .ref (He.ga K "Part")) rfl T.g_Part rfl) pa_nil))))) (pss_one (ps_rz R_BadQuestion rfl (hr.mono (by decide)) (takes_of rfl rfl rfl rfl) rfl (pa_cons pe_str pa_nil))) pss_nil)
      (pss_one (ps_ret (pe_mkX C_Question (hr.mono (by decide)) rfl pass_E0 (pa_cons (pe_fldK (K := K) rfl (pv 0) rfl) (pa_cons (pe_dcT (own := [("place", 1)]) (g := gName 1) (tt := tYes) (Nat.lt_of_le_of_lt (Nat.le_add_right _ _) hu) (by rfl) sc_Question_of.nd (pi_sqK (K := K) rfl (pe_fldK (K := K) rfl (pv 0) rfl)) (blkOk_by (own := [("place", 1)]) (N := ["part", "place"]) (sc := defScope s_Question_of) (by decide +kernel)) (fun _ _ _ _ _ => by exact (pg_name (i := 1) sc_Question_of.nd rfl (by first | exact Or.inl rfl | exact Or.inr rfl))) (fun _ _ _ _ _ => by exact pts_nil) (fun _ _ _ _ _ => by exact (pv 1)) (fun _ _ _ _ _ => by exact pe_int)) pa_nil)))))), ?_⟩
    obtain ⟨ty, kt⟩ := ins_kit T.o_Part T.o_Part T.k_Part pa.of.ins (by decide)
    refine ⟨_, rfl, _, _, _, _, _, rfl, .own _, ty, kt, _, rfl, ?_⟩
    refine ite2 (fun c => absurd c (by decide)) (fun _ => ?_)
    refine ⟨_, rfl, a, _, dxa, _, _, rfl, pa.obj, T.k_Part, T.a_Part_shape, rfl, ?_⟩
    refine dc_pure (j := 1) (fun _ => true) (fun _ => .int 1) (.inl pa.places) pa.keyed (by rw [pa.keyed.1, List.length_map, sizeLine_eq]; omega) (by show 1 < 2; decide) (fun R r => ⟨_, rfl, a, _, dxa, _, _, rfl, pa.obj, T.k_Part, T.a_Part_places, rfl, r⟩) (fun b key _ _ H1 Q' s q => q) (fun b key _ _ _ H1 Q' s q => q) fun D hD => ?_
    rw [plD_ones ndp]
    have s1 := same_new (o := .dT (plD (ps.map fun p => (p, 1)))) hD
    intro x dx nx ndx nd
    have sm := s1.trans (made_mid (o := .ins (He.ga K "Question") dx []) nx ndx)
    refine ⟨x, dx, sa, D, ks, d, ps.map fun p => (p, 1), rfl, upd_same, (upd_ne nd).trans upd_same, s0.kp (.of sm), made_mid nx ndx _ _ upd_same, fun z hz => ?_, fun H' t pt pdx ptt bs k1 ht qc => ⟨rfl, k H' x dx t pt pdx ptt bs (s1.trans (made_same nx ndx k1)) (s1.free (made_free ht)) qc⟩⟩
    obtain ⟨p, hp, rfl⟩ := List.mem_map.mp hz
    exact ma p hp
theorem ok_question_none (T : Top w K mg) (C_Question : MakeX (L2.CX P w) P w K mg base "Question" (He.ga K "Question") 8 ["self", "shape", "weights"] [] (spQuestion K)) {f : Addr} (F : FunD K "none" "Question.none" (defArgs s_Question_none) (defBody s_Question_none) (defScope s_Question_none) [] [] f fd) : FnOk P w K mg base CX0 10 f fd ["shape"] (spQNone K) := by
  refine F.ok sc_Question_none (fun vs H Q E h => ?_) (fun cdv A outer s H vs Q E hr h => ?_)
  · obtain ⟨sa, ks, d, rfl, _⟩ := h
    rfl
  · obtain ⟨sa, ks, d, rfl, s0, k⟩ := h
    refine ⟨_, PSs.nox (pss_one (ps_ret (pe_mkX C_Question (hr.mono (by decide)) rfl pass_E0 (pa_cons (pv 0) (pa_cons pe_dnewT pa_nil))))), ?_⟩
    refine ⟨_, rfl, fun D hD => ?_⟩
    have s1 := same_new (o := .dT []) hD
    intro x dx nx ndx nd
    have sm := s1.trans (made_mid (o := .ins (He.ga K "Question") dx []) nx ndx)
    exact ⟨x, dx, sa, D, ks, d, [], rfl, upd_same, (upd_ne nd).trans upd_same, s0.kp (.of sm), made_mid nx ndx _ _ upd_same, fun z hz => absurd hz List.not_mem_nil, fun H' t pt pdx ptt bs k1 ht qc => ⟨rfl, k H' x dx t pt pdx ptt bs (s1.trans (made_same nx ndx k1)) (s1.free (made_free ht)) qc⟩⟩
end
end L2.K20
set_option Elab.async false
set_option linter.all false
set_option maxRecDepth 100000
set_option maxHeartbeats 4000000
/-! The text of a question: that there is one. -/
namespace L2.K20
open PySem PySem.Spec PyProof.Rows L2.RV
/-- whole_text(number), of a number of at most 110 bits: some text -/
def spWhTx : Sp := fun vs H Q _ => ∃ n : Int, vs = [.int n] ∧ n.natAbs < 2 ^ 110 ∧ ∀ H' y, Same H H' → y.length ≤ 3000 → Q (.str y) H'
theorem len_app (x y : Str) : (x ++ y).length = x.length + y.length := by rw [TL.len_tl, TL.tl_append, List.length_append, ← TL.len_tl, ← TL.len_tl]
theorem join_len (y : Str) (ps : List Str) : (Txt.join y ps).length ≤ (ps.map (·.length)).sum + ps.length * y.length := by
  rw [TL.join_eq]
  induction ps with
  | nil => exact Nat.zero_le _
  | cons p r ih =>
    cases r with
    | nil =>
      show p.length ≤ _
      rw [List.map_cons, List.sum_cons]
      omega
    | cons q r =>
      show (p ++ y ++ Str.join y (q :: r)).length ≤ _
      rw [len_app, len_app, List.map_cons, List.sum_cons, List.length_cons, Nat.succ_mul]
      omega
theorem log110 {n : Int} (h : n.natAbs < 2 ^ 110) : n.natAbs.log2 < 1920 := by
  rcases Nat.eq_zero_or_pos n.natAbs with z | z
  · rw [z]; decide
  · have := (Nat.log2_lt (by omega)).mpr h
    omega
/-- str(question): some text -/
def spQStr (K : PySem.W.Frag) : Sp := fun vs H Q _ => ∃ q s t ks d ws, vs = [.ref q] ∧ HeldX K H "Question" "weights" q s t ws ∧ ShapeAt K H s ks d ∧ (∀ z ∈ ws, z.1 ∈ placesOf ks d) ∧ ws.length ≤ 36 ∧ Bits ws ∧ ∀ H' y, Same H H' → y.length ≤ 190000 → Q (.str y) H'
section
variable {P : Program} {w : World} {K : PySem.W.Frag} {mg : Str → Option Value} {base : Heap} {fd : FuncData}
theorem ok_whole_text (T : Top w K mg) (F : Fn K "whole_text" s_whole_text fd) : FnOk P w K mg base CX0 1 (He.ga K "whole_text") fd ["number"] spWhTx := by
  refine F.ok sc_whole_text (fun vs H Q E h => ?_) (fun cdv A outer s H vs Q E hr h => ?_)
  · obtain ⟨n, rfl, _⟩ := h
    rfl
  · obtain ⟨n, rfl, small, k⟩ := h
    have hu := hr.units
    refine ⟨_, PSs.nox (pss_cons (ps_set (i := 1) sc_whole_text.nd rfl (by first | exact Or.inl rfl | exact Or.inr rfl) (pe_callB call_abs rfl T.n_abs (by decide +kernel) (pa_cons (pv 0) pa_nil)))
      (pss_cons (ps_set (i := 2) sc_whole_text.nd rfl (by first | exact Or.inl rfl | exact Or.inr rfl) (pe_lstN pa_nil))
      (pss_cons (ps_while PassesOwn.never (pt_cmpR op_ge (pv 1) (pe_op op_pow pe_int pe_int) (nomark _)) (pss_cons (ps_asg (pe_callB call_divmodW rfl T.n_divmod (by decide +kernel) (pa_cons (pv 1) (pa_cons (pe_op op_pow pe_int pe_int) pa_nil))) (pg_tup rfl (pgs_cons (pg_name (i := 1) sc_whole_text.nd rfl (by first | exact Or.inl rfl | exact Or.inr rfl)) (pgs_cons (pg_name (i := 4) sc_whole_text.nd rfl (by first | exact Or.inl rfl | exact Or.inr rfl)) pgs_nil))))
      (pss_one (ps_expr (pe_bm PySem.F.plainAttrs_list PySem.F.slot_list_append PySem.F.type_list_append mt_append (pv 2) (pa_cons (pe_bm PySem.F.plainAttrs_str PySem.F.slot_str_zfill PySem.F.type_str_zfill mt_zfill (pe_callTy call_str_int rfl T.n_str (by decide +kernel) (pa_cons (pv 4) pa_nil)) (pa_cons (pe_globE rfl T.i_PIECE) pa_nil)) pa_nil))))))
      (pss_cons (ps_expr (pe_bm PySem.F.plainAttrs_list PySem.F.slot_list_append PySem.F.type_list_append mt_append (pv 2) (pa_cons (pe_callTy call_str_int rfl T.n_str (by decide +kernel) (pa_cons (pv 1) pa_nil)) pa_nil)))
      (pss_cons (ps_set (i := 3) sc_whole_text.nd rfl (by first | exact Or.inl rfl | exact Or.inr rfl) (pe_bm PySem.F.plainAttrs_str PySem.F.slot_str_join PySem.F.type_str_join mt_join pe_str (pa_cons (pe_revL (pv 2)) pa_nil)))
      (pss_one (ps_ret (pe_ifExp (pt_cmpR op_lt (pv 0) pe_int (nomark _)) (pe_fs (.cons pe_str (.cons (pe_fmt (pv 3)) .nil))) (pv 3))))))))), ?_⟩
    have hm : (if n < 0 then -n else n).natAbs < 2 ^ 110 ∧ 0 ≤ (if n < 0 then -n else n) := by
      split
      · rw [Int.natAbs_neg]; exact ⟨small, by omega⟩
      · exact ⟨small, by omega⟩
    refine ⟨_, rfl, _, rfl, ?_⟩
    generalize (if n < 0 then -n else n) = m at hm ⊢
    have e60 : ¬ ((10 : Int) ^ (60 : Int).toNat ≤ m) := by
      have : (2 : Nat) ^ 110 < 10 ^ 60 := by decide
      have e : ((10 : Int) ^ (60 : Int).toNat) = ((10 ^ 60 : Nat) : Int) := by decide
      rw [e]
      omega
    refine ⟨Nat.zero_le _, fun L hL _ => ?_⟩
    refine ⟨fun _ σ' H' => σ' = [some (.int n), some (.int m), some (.ref L), none, none] ∧ H' = upd H L (.lst []), ⟨0, rfl, rfl⟩, fun _ σ' H' e => ?_⟩
    obtain ⟨rfl, rfl⟩ := e
    refine ⟨_, rfl, _, _, rfl, rfl, ⟨by decide, by decide, by decide⟩, _, _, rfl, rfl, _, rfl, ?_⟩
    refine ite2 (fun c => absurd (of_decide_eq_true c) e60) (fun _ => ?_)
    refine ⟨_, rfl, .inl ⟨rfl, _, .inl (.inl upd_same)⟩, _, rfl, m, rfl, log110 hm.1, L, _, _, rfl, rfl, upd_same, by decide, ?_⟩
    rw [upd_upd]
    have s1 := same_new (o := .lst ([] ++ [V.str (Str.ofString (toString m))])) hL
    have eL : (upd H L (.lst ([] ++ [V.str (Str.ofString (toString m))]))) L = some (.lst [V.str (Str.ofString (toString m))]) := upd_same
    generalize upd H L (.lst ([] ++ [V.str (Str.ofString (toString m))])) = H1 at s1 eL ⊢
    have lm : (Str.ofString (toString m)).length ≤ 1921 := int_text_len_1921 (log110 hm.1)
    refine ⟨rfl, _, rfl, L, _, rfl, SqL.of eL, fun R hR => ?_⟩
    have s2 := s1.trans (same_new (o := .lst [V.str (Str.ofString (toString m))]) hR)
    refine ⟨_, R, [Str.ofString (toString m)], rfl, rfl, .inl (SqL.of upd_same), ?_, ?_⟩
    · show (Str.ofString (toString m)).length + 0 + 1 * 0 ≤ 16777216
      omega
    have lj : (Txt.join "" [Str.ofString (toString m)]).length ≤ 1921 := by
      rw [TL.join_eq]
      exact lm
    generalize Txt.join "" [Str.ofString (toString m)] = y at lj ⊢
    refine ⟨_, rfl, _, _, rfl, rfl, _, rfl, ?_⟩
    refine ite2 (fun c => ?_) (fun c => ?_)
    · refine ⟨_, rfl, ?_, _, rfl, .inl ⟨y, rfl, ?_, _, rfl, ?_, k _ _ s2 ?_⟩⟩
      · decide +kernel
      · rw [sizeLine_eq]; omega
      · rw [len_app, len_app, sizeLine_eq]
        show 0 + 1 + y.length ≤ 16777216
        omega
      · rw [len_app, len_app]
        show 0 + 1 + y.length ≤ 3000
        omega
    · exact ⟨_, rfl, k _ _ s2 (by omega)⟩
theorem ok_question_str (T : Top w K mg) (D_whole_text : Def P w K mg base "whole_text" 1 ["number"] spWhTx) (S_Question_getitem : MethS (L2.CX P w) P w K mg base (He.ga K "Question") "__getitem__" 4 ["self", "at"] (spAt K "Question" "weights")) {f : Addr} (F : FunD K "__str__" "Question.__str__" (defArgs s_Question_str) (defBody s_Question_str) (defScope s_Question_str) [] [] f fd) : FnOk P w K mg base CX0 6 f fd ["self"] (spQStr K) := by
  refine F.ok sc_Question_str (fun vs H Q E h => ?_) (fun cdv A outer s H vs Q E hr h => ?_)
  · obtain ⟨q, sa, t, ks, d, ws, rfl, _⟩ := h
    rfl
  · obtain ⟨q, sa, t, ks, d, ws, rfl, hq, s0, mem, few, bw, k⟩ := h
    have hu := hr.units
    refine ⟨_, PSs.nox (pss_cons (ps_if (pt_cmpR (op_eqT (Nat.lt_of_le_of_lt (Nat.add_le_add_left (by decide) _) hu)) (pe_fldK (K := K) rfl (pv 0) rfl) pe_dnewT (nomark _)) (pss_one (ps_ret pe_str)) pss_nil)
      (pss_one (ps_ret (pe_bm PySem.F.plainAttrs_str PySem.F.slot_str_join PySem.F.type_str_join mt_join pe_str (pa_cons (pe_lock (pe_lc (own := [("key", 1), ("day", 2)]) (g := gTup K 2 (gCons (gName 1) (gCons (gName 2) gNil))) (tt := tYes) (by rfl) sc_Question_str.nd (pi_keys (pe_fldK (K := K) rfl (pv 0) rfl)) (blkOk_by (own := [("key", 1), ("day", 2)]) (N := ["self", "key", "day"]) (sc := defScope s_Question_str) (by decide +kernel)) (fun _ _ _ _ _ => by exact (pg_tup rfl (pgs_cons (pg_name (i := 1) sc_Question_str.nd rfl (by first | exact Or.inl rfl | exact Or.inr rfl)) (pgs_cons (pg_name (i := 2) sc_Question_str.nd rfl (by first | exact Or.inl rfl | exact Or.inr rfl)) pgs_nil)))) (fun _ _ _ _ _ => by exact pts_nil) (fun _ _ _ _ _ => by exact (pe_fs (.cons (pe_fmt (pe_callD D_whole_text (hr.mono (by decide)) rfl (pa_cons (pe_ixO S_Question_getitem (hr.mono (by decide)) pass_E0 (pv 0) (pe_tup (pa_cons (pv 1) (pa_cons (pv 2) pa_nil)))) pa_nil))) (.cons pe_str (.cons (pe_fmt (pv 1)) (.cons pe_str (.cons (pe_fmt (pv 2)) .nil))))))))) pa_nil))))), ?_⟩
    have hh := hq.held
    obtain ⟨dx, fs, e1, e2, e3, e4⟩ := hq
    refine ⟨_, rfl, q, _, dx, _, _, rfl, e1, T.k_Question, T.a_Question_weights, e3, fun Z hZ => ?_⟩
    have sZ := same_new (o := .dT []) hZ
    refine ⟨t, Z, plD ws, [], rfl, rfl, sZ _ _ e4, upd_same, ints_plD ws, fun _ z => absurd z List.not_mem_nil, _, rfl, ?_⟩
    refine ite2 (fun c => k _ _ sZ (by decide)) (fun c => ?_)
    have hh1 := hh.kp (.of sZ)
    have e1' := sZ _ _ e1
    have e4' := sZ _ _ e4
    have s01 := s0.kp (.of sZ)
    have k1 : ∀ H' y, Same (upd H Z (.dT [])) H' → y.length ≤ 190000 → Q (.str y) H' := fun H' y s l => k H' y (sZ.trans s) l
    generalize upd H Z (.dT []) = H1 at hh1 e1' e4' s01 k1 ⊢
    clear sZ hh e1 e4 s0 k
    with_reducible refine nxU ?_
    with_reducible refine retU ?_
    refine ⟨rfl, ?_⟩
    refine ⟨t, .dT (plD ws), e4', True.intro, fun od => ?_⟩
    have lk : Kp0 H1 (upd H1 t (.frz od (.dT (plD ws)))) := Kp.lock e4'
    have e1l := lk.fix _ (.ins _ _ _) True.intro e1'
    refine ⟨_, rfl, q, _, dx, _, _, rfl, e1l, T.k_Question, T.a_Question_weights, e3, t, od, rfl, .inr ⟨plD ws, upd_same, fun D hD => ?_⟩⟩
    have lw : (plD ws).length = ws.length := List.length_map ..
    refine lc_it walk_keysT (fun i H' => (∃ ys : List Str, H' D = some (.lst (ys.map V.str)) ∧ ys.length = i ∧ ∀ y ∈ ys, y.length ≤ 5000) ∧ Same (upd H1 t (.frz od (.dT (plD ws)))) H') ⟨⟨[], upd_same, rfl, fun _ h => absurd h List.not_mem_nil⟩, same_new hD⟩ (fun i H' _ e => e.2 _ _ upd_same) (fun i x H2 H3 lt e y => ?_) (fun H' e => ?_)
    · obtain ⟨⟨ys, hDl, ly, by_⟩, sm⟩ := e
      obtain ⟨rfl, key, v, b, hkv, rfl, hb⟩ := y
      obtain ⟨z, hz, rfl, rfl⟩ := plD_get hkv
      refine ⟨b, plV z.1, rfl, SqT.of hb, rfl, _, _, rfl, _, _, rfl, rfl, rfl, ?_⟩
      with_reducible refine yesU ?_
      refine ⟨_, rfl, _, rfl, _, rfl, by show 2 ≤ sizeLine; decide, fun p np => ?_⟩
      have s3 := sm.trans (same_new (o := .tup [.str z.1.1, .int z.1.2]) np)
      have h3 := hh1.kp (lk.trans (.of s3))
      have s03 := s01.kp (lk.trans (.of s3))
      have g1 := s3 _ _ e1l
      refine ⟨q, dx, fs, rfl, g1, q, p, sa, ks, d, ws, z.1, rfl, h3, s03, upd_same, mem _ hz, _, rfl, bw.at_ z.1, fun H4 y s4 ly4 => ?_⟩
      have l8 : z.1.1.length ≤ 8 := (name_ok (s01.ok.names _ (mem_places.mp (mem _ hz)).1)).2
      have d8 : z.1.2 < 8 := Nat.lt_of_lt_of_le (mem_places.mp (mem _ hz)).2 s01.ok.d8
      have lg : ((z.1.2 : Nat) : Int).natAbs.log2 < 1920 := by
        show z.1.2.log2 < 1920
        rcases Nat.eq_zero_or_pos z.1.2 with zz | zz
        · rw [zz]; decide
        · have := (Nat.log2_lt (n := z.1.2) (k := 3) (by omega)).mpr d8
          omega
      have ld : (Str.ofString (toString ((z.1.2 : Nat) : Int))).length ≤ 1921 := int_text_len_1921 lg
      have hDl4 : H4 D = some (.lst (ys.map V.str)) := s4 _ _ ((upd_ne (fun zz => by rw [zz, np] at hDl; cases hDl)).trans hDl)
      refine .inl ⟨y, rfl, by rw [sizeLine_eq]; omega, y, rfl, ?_, _, rfl, ?_, _, rfl, .inl ⟨z.1.1, rfl, by rw [sizeLine_eq]; omega, z.1.1, rfl, ?_, _, rfl, ?_, _, rfl, .inr ⟨(z.1.2 : Int), rfl, ?_, _, rfl, ?_, ys.map V.str, hDl4, ?_, ⟨ys ++ [Str.empty ++ y ++ Str.ofString " " ++ z.1.1 ++ Str.ofString " " ++ Str.ofString (toString ((z.1.2 : Nat) : Int))], ?_, ?_, fun w hw => ?_⟩, fun c o ec => ?_⟩⟩⟩
      · rw [len_app, sizeLine_eq]
        show 0 + y.length ≤ 16777216
        omega
      · rw [len_app, len_app, sizeLine_eq]
        show 0 + y.length + 1 ≤ 16777216
        omega
      · rw [len_app, len_app, len_app, sizeLine_eq]
        show 0 + y.length + 1 + z.1.1.length ≤ 16777216
        omega
      · rw [len_app, len_app, len_app, len_app, sizeLine_eq]
        show 0 + y.length + 1 + z.1.1.length + 1 ≤ 16777216
        omega
      · exact lg
      · rw [len_app, len_app, len_app, len_app, len_app, sizeLine_eq]
        show 0 + y.length + 1 + z.1.1.length + 1 + (Str.ofString (toString ((z.1.2 : Nat) : Int))).length ≤ 16777216
        omega
      · rw [List.length_map, ly, sizeLine_eq]
        rw [lw] at lt
        omega
      · rw [upd_same, List.map_append]
        rfl
      · rw [List.length_append, ly]
        rfl
      · rcases List.mem_append.mp hw with h | h
        · exact by_ w h
        · rw [List.mem_singleton.mp h, len_app, len_app, len_app, len_app, len_app]
          show 0 + y.length + 1 + z.1.1.length + 1 + (Str.ofString (toString ((z.1.2 : Nat) : Int))).length ≤ 5000
          omega
      · have nc : c ≠ D := ne_of_none ec hD
        exact (upd_ne nc).trans (s4 _ _ (s3 c o ec))
    · obtain ⟨⟨ys, hDl, ly, by_⟩, sm⟩ := e
      refine ⟨sm _ _ upd_same, ?_⟩
      have nDt : D ≠ t := fun z => by rw [z, upd_same] at hD; cases hD
      have sum : ∀ zs : List Str, (∀ y ∈ zs, y.length ≤ 5000) → (zs.map (·.length)).sum ≤ 5000 * zs.length := by
        intro zs
        induction zs with
        | nil => intro _; exact Nat.le_refl _
        | cons y r ih =>
          intro h
          have a := h y List.mem_cons_self
          have b := ih fun x hx => h x (List.mem_cons_of_mem _ hx)
          rw [List.map_cons, List.sum_cons, List.length_cons]
          omega
      have z := sum ys by_
      have jl := join_len (Str.ofString " , ") ys
      have l3 : (Str.ofString " , ").length = 3 := by decide
      rw [l3] at jl
      rw [lw] at ly
      refine ⟨_, D, ys, rfl, rfl, .inl (SqL.of ((upd_ne nDt).trans hDl)), ?_, k1 _ _ (fun b o ob => ?_) (by omega)⟩
      · show _ + ys.length * 3 ≤ 16777216
        omega
      · by_cases n : b = t
        · subst n
          rw [upd_same, ← e4', ob]
        · exact (upd_ne n).trans (sm _ _ ((upd_ne n).trans ob))
end
end L2.K20
set_option Elab.async false
set_option linter.all false
set_option maxRecDepth 100000
set_option maxHeartbeats 4000000
/-! What the law draws. -/
namespace L2.K20
open PySem PySem.Spec PyProof.Rows L2.RV
theorem PenAt.keep {H H' : Hp} {q p l : Addr} {ns : List Int} {a r : Int} (x : PenAt H p l ns a r) (k : Keep q H H') (np : p ≠ q) (nl : l ≠ q) : PenAt H' p l ns a r := ⟨k _ _ np x.pen, k _ _ nl x.nums, x.ne, x.few, x.from0, x.rest0⟩
theorem areKeys_snoc {xs ys : List Str} {k : Str} (h : areKeys xs = true) (p : ys.Perm xs) (l : xs.length ≤ 3) (n : k ∉ xs) (g : isName k = true := by decide +kernel) : areKeys (ys ++ [k]) = true := by
  obtain ⟨_, _, names, nd⟩ := areKeys_ok h
  have nd2 : (ys ++ [k]).Nodup := by
    rw [List.nodup_append]
    refine ⟨p.nodup_iff.mpr nd, List.nodup_cons.mpr ⟨List.not_mem_nil, .nil⟩, fun a ha b hb => ?_⟩
    rw [List.mem_singleton.mp hb]
    exact fun z => n (by rw [← z]; exact p.mem_iff.mp ha)
  have len : (ys ++ [k]).length = xs.length + 1 := by rw [List.length_append, p.length_eq]; rfl
  unfold areKeys
  rw [once_nodup _ [] nd2 (fun _ _ => List.not_mem_nil), List.nil_append, len]
  simp only [Bool.and_eq_true, decide_eq_true_eq, List.all_eq_true]
  refine ⟨by push_cast; omega, by push_cast; omega, fun x hx => ?_, trivial⟩
  rcases List.mem_append.mp hx with h | h
  · exact names x (p.mem_iff.mp h)
  · rw [List.mem_singleton.mp h]; exact g
/-- texts that make a shape, in a list or a tuple at v -/
def KeysAt (K : PySem.W.Frag) (H : Hp) (v : V) : Prop := ∃ a xs, v = .ref a ∧ (Rd H a (.lst (xs.map V.str)) ∨ Rd H a (.tup (xs.map V.str))) ∧ areKeys xs = true ∧ xs.length ≤ 3 ∧ (∀ x ∈ xs, x.length ≤ 10) ∧ ("new" : Str) ∉ xs
theorem KeysAt.same {K : PySem.W.Frag} {H H' : Hp} {v : V} (k : KeysAt K H v) (s : ∀ a o, v = .ref a → H a = some o → H' a = some o) : KeysAt K H' v := by
  obtain ⟨a, xs, rfl, q, r⟩ := k
  exact ⟨a, xs, rfl, q.imp (fun z => Rd.keep z fun o => s a o rfl) (fun z => Rd.keep z fun o => s a o rfl), r⟩
/-- _law_shape(pen) -/
def spLShape (K : PySem.W.Frag) : Sp := fun vs H Q _ => ∃ (p l : Addr) (ns : List Int) (a r : Int), vs = [.ref p] ∧ PenAt H p l ns a r ∧ a ≤ 90000 ∧
  ∀ H' a' r' s ks d, Keep p H H' → PenAt H' p l ns a' r' → a' ≤ a + 2 → ShapeAt K H' s ks d → ks.length ≤ 3 → d ≤ 3 → areKeys (ks ++ [("new" : Str)]) = true → Q (.ref s) H'
section
variable {P : Program} {w : World} {K : PySem.W.Frag} {mg : Str → Option Value} {base : Heap} {fd : FuncData}
theorem ok_law_shape (T : Top w K mg) (D_law_draw : Def P w K mg base "_law_draw" 1 ["_law_pen_here", "_law_many"] spDraw) (D_law_pick : Def P w K mg base "_law_pick" 2 ["_law_pen_here", "_law_some_here"] spPick) (C_Shape : MakeX (L2.CX P w) P w K mg base "Shape" (He.ga K "Shape") 3 ["self", "keys", "days"] [] (spShapeInit K)) (F : Fn K "_law_shape" s_law_shape fd) : FnOk P w K mg base CX0 5 (He.ga K "_law_shape") fd ["_law_pen_here"] (spLShape K) := by
  refine F.ok sc_law_shape (fun vs H Q E h => ?_) (fun cdv A outer s H vs Q E hr h => ?_)
  · obtain ⟨p, l, ns, a, r, rfl, _⟩ := h
    rfl
  · obtain ⟨p, l, ns, a, r, rfl, pen, ha, k⟩ := h
    refine ⟨_, PSs.nox (pss_one (ps_ret (pe_mkX C_Shape (hr.mono (by decide)) rfl pass_E0 (pa_cons (pe_callD D_law_pick (hr.mono (by decide)) rfl (pa_cons (pv 0) (pa_cons (pe_lstN (pa_cons (pe_lstN (pa_cons pe_str pa_nil)) (pa_cons (pe_lstN (pa_cons pe_str (pa_cons pe_str pa_nil))) (pa_cons (pe_lstN (pa_cons pe_str (pa_cons pe_str pa_nil))) (pa_cons (pe_lstN (pa_cons pe_str (pa_cons pe_str (pa_cons pe_str pa_nil)))) (pa_cons (pe_tup (pa_cons pe_str (pa_cons pe_str pa_nil))) pa_nil)))))) pa_nil))) (pa_cons (pe_op op_plus pe_int (pe_callD D_law_draw (hr.mono (by decide)) rfl (pa_cons (pv 0) (pa_cons pe_int pa_nil)))) pa_nil))))), ?_⟩
    refine ⟨_, rfl, by show 1 ≤ sizeLine; decide, fun q1 h1 _ => ?_⟩
    refine ⟨by show 2 ≤ sizeLine; decide, fun q2 h2 _ => ?_⟩
    refine ⟨by show 2 ≤ sizeLine; decide, fun q3 h3 _ => ?_⟩
    refine ⟨by show 3 ≤ sizeLine; decide, fun q4 h4 _ => ?_⟩
    refine ⟨by show 2 ≤ sizeLine; decide, fun q5 h5 => ?_⟩
    refine ⟨by show 5 ≤ sizeLine; decide, fun q6 h6 _ => ?_⟩
    have s1 := same_new (o := .lst [.str "a"]) h1
    have s2 := same_new (o := .lst [.str "b", .str "a"]) h2
    have s3 := same_new (o := .lst [.str "a", .str "zz"]) h3
    have s4 := same_new (o := .lst [.str "k", .str "a", .str "m"]) h4
    have s5 := same_new (o := .tup [.str "b", .str "a"]) h5
    have s6 := same_new (o := .lst [.ref q1, .ref q2, .ref q3, .ref q4, .ref q5]) h6
    have all : ∀ v ∈ [V.ref q1, V.ref q2, V.ref q3, V.ref q4, V.ref q5], KeysAt K (upd (upd (upd (upd (upd (upd H q1 (.lst [.str "a"])) q2 (.lst [.str "b", .str "a"])) q3 (.lst [.str "a", .str "zz"])) q4 (.lst [.str "k", .str "a", .str "m"])) q5 (.tup [.str "b", .str "a"])) q6 (.lst [.ref q1, .ref q2, .ref q3, .ref q4, .ref q5])) v := by
      intro v hv
      simp only [List.mem_cons, List.not_mem_nil, or_false] at hv
      rcases hv with rfl | rfl | rfl | rfl | rfl
      · exact ⟨q1, ["a"], rfl, .inl (.inl (s6 _ _ (s5 _ _ (s4 _ _ (s3 _ _ (s2 _ _ upd_same)))))), by decide +kernel, by decide, by decide, by decide⟩
      · exact ⟨q2, ["b", "a"], rfl, .inl (.inl (s6 _ _ (s5 _ _ (s4 _ _ (s3 _ _ upd_same))))), by decide +kernel, by decide, by decide, by decide⟩
      · exact ⟨q3, ["a", "zz"], rfl, .inl (.inl (s6 _ _ (s5 _ _ (s4 _ _ upd_same)))), by decide +kernel, by decide, by decide, by decide⟩
      · exact ⟨q4, ["k", "a", "m"], rfl, .inl (.inl (s6 _ _ (s5 _ _ upd_same))), by decide +kernel, by decide, by decide, by decide⟩
      · exact ⟨q5, ["b", "a"], rfl, .inr (.inl (s6 _ _ upd_same)), by decide +kernel, by decide, by decide, by decide⟩
    have ap : ∀ v ∈ [V.ref q1, V.ref q2, V.ref q3, V.ref q4, V.ref q5], v ≠ V.ref p := by
      have np : ∀ {q : Addr} {H1 : Hp}, Same H H1 → H1 q = none → V.ref q ≠ V.ref p := fun {q H1} s hq z => by
        injection z with z
        rw [z, s _ _ pen.pen] at hq
        cases hq
      intro v hv
      simp only [List.mem_cons, List.not_mem_nil, or_false] at hv
      rcases hv with rfl | rfl | rfl | rfl | rfl
      · exact np (fun _ _ z => z) h1
      · exact np s1 h2
      · exact np (s1.trans s2) h3
      · exact np ((s1.trans s2).trans s3) h4
      · exact np (((s1.trans s2).trans s3).trans s4) h5
    have sall := ((((s1.trans s2).trans s3).trans s4).trans s5).trans s6
    have e6 : (upd (upd (upd (upd (upd (upd H q1 (.lst [.str "a"])) q2 (.lst [.str "b", .str "a"])) q3 (.lst [.str "a", .str "zz"])) q4 (.lst [.str "k", .str "a", .str "m"])) q5 (.tup [.str "b", .str "a"])) q6 (.lst [.ref q1, .ref q2, .ref q3, .ref q4, .ref q5])) q6 = some (.lst [.ref q1, .ref q2, .ref q3, .ref q4, .ref q5]) := upd_same
    have n6 : q6 ≠ p := fun z => by rw [z, ((((s1.trans s2).trans s3).trans s4).trans s5) _ _ pen.pen] at h6; cases h6
    refine ⟨p, l, q6, ns, a, r, _, rfl, pen.same sall, by omega, e6, n6, (by show 0 < 5; decide), (by show 5 < 1000000; decide), fun H7 a1 r1 v k7 pen7 la hv => ?_⟩
    have kv := (all v hv).same (H' := H7) fun b o e z => k7 b o (fun y => ap v hv (by rw [e, y])) z
    have k07 : Keep p H H7 := (Keep.of sall).trans k7
    clear all ap s1 s2 s3 s4 s5 s6 h1 h2 h3 h4 h5 h6 e6 n6 sall k7
    refine ⟨_, rfl, p, l, ns, a1, r1, 3, rfl, pen7, by omega, by decide, by decide, fun H8 a2 r2 dd k8 pen8 la2 d0 d1 => .inl ⟨_, _, rfl, rfl, ?_⟩⟩
    obtain ⟨ka, xs, rfl, hk, ak, l3, short, nnew⟩ := kv
    have nka : ka ≠ p := fun z => by
      rw [z] at hk
      have e := pen7.pen
      rcases hk with (hk | ⟨od, hk⟩) | (hk | ⟨od, hk⟩)
      · rw [e] at hk
        injection hk with hk
        injection hk with hk
        have := congrArg List.head? hk
        cases xs with
        | nil => cases hk
        | cons y ys => rw [List.map_cons] at hk; injection hk with h1 h2; cases h1
      · rw [e] at hk; cases hk
      · rw [e] at hk; cases hk
      · rw [e] at hk; cases hk
    have hk8 : Sq K H8 ka (xs.map V.str) := by
      rcases hk with hk | hk
      · exact .inr (.inl (Rd.keep hk fun o e => k8 _ _ nka e))
      · exact .inl (.inl (Rd.keep hk fun o e => k8 _ _ nka e))
    intro x dx nx ndx nd
    have sm := made_mid (o := .ins (He.ga K "Shape") dx []) nx ndx
    obtain ⟨m, rfl⟩ : ∃ m : Nat, dd = (m : Int) := ⟨dd.toNat, (Int.toNat_of_nonneg d0).symm⟩
    obtain ⟨k1, k6, names, ndk⟩ := areKeys_ok ak
    have few : xs.length * (1 + m) ≤ 3 * 3 := Nat.mul_le_mul l3 (by omega)
    refine ⟨x, dx, ka, xs, 1 + m, by push_cast; rfl, upd_same, (upd_ne nd).trans upd_same, hk8.keep (SqKeep.of_same sm), ak, fun y hy => by rw [sizeLine_eq]; have := short y hy; omega, by omega, by omega, by omega, fun H9 ys k9 perm _ sh => ⟨rfl, ?_⟩⟩
    have s89 := made_same nx ndx k9
    exact k H9 a2 r2 x ys (1 + m) ((k07.trans k8).trans (Keep.of s89)) (pen8.same s89) (by omega) sh (by rw [perm.length_eq]; exact l3) (by omega) (areKeys_snoc ak perm l3 nnew)
end
end L2.K20
set_option Elab.async false
set_option linter.all false
set_option maxRecDepth 100000
set_option maxHeartbeats 4000000
/-! Weights that the law draws, and its own sums. -/
namespace L2.K20
open PySem PySem.Spec PyProof.Rows L2.RV
/-- weights by places of a shape, in its order -/
structure Wts (ks : List Str) (d : Nat) (ws : List (Pl × Int)) : Prop where
  sub : (ws.map (·.1)).Sublist (placesOf ks d)
  bits : Bits ws
theorem Wts.nd {ks : List Str} {d : Nat} {ws : List (Pl × Int)} (w : Wts ks d ws) (ok : ShOk ks d) : (ws.map (·.1)).Nodup := (nodup_places d ok.nd).sublist w.sub
theorem Wts.mem {ks : List Str} {d : Nat} {ws : List (Pl × Int)} (w : Wts ks d ws) : ∀ z ∈ ws, z.1 ∈ placesOf ks d := fun z hz => w.sub.subset (List.mem_map.mpr ⟨z, hz, rfl⟩)
theorem Wts.few {ks : List Str} {d : Nat} {ws : List (Pl × Int)} (w : Wts ks d ws) (ok : ShOk ks d) : ws.length ≤ 36 := by
  have z := w.sub.length_le
  rw [List.length_map, length_places] at z
  have := ok.few
  omega
theorem valV_out {ws : List (Pl × Int)} {p : Pl} (h : p ∉ ws.map (·.1)) : valV (plD ws) (plK p) = none := by
  cases c : valV (plD ws) (plK p) with
  | none => rfl
  | some v =>
    unfold valV at c
    obtain ⟨pr, hf, _⟩ := Option.map_eq_some_iff.mp c
    have h1 := List.mem_of_find?_eq_some hf
    have h2 := List.find?_some hf
    unfold plD at h1
    obtain ⟨z, hz, rfl⟩ := List.mem_map.mp h1
    have h3 : plK z.1 = plK p := by simpa using h2
    exact absurd (List.mem_map.mpr ⟨z, hz, plK_inj.mp h3⟩) h
theorem putK_out {ws : List (Pl × Int)} {p : Pl} {n : Int} (h : p ∉ ws.map (·.1)) : putK (plD ws) (plK p) (V.int n) = plD (ws ++ [(p, n)]) := by
  rw [putK_new _ (valV_out h)]
  unfold plD
  rw [List.map_append]
  rfl
theorem at_mem {ws : List (Pl × Int)} (nd : (ws.map (·.1)).Nodup) : ∀ z ∈ ws, atD ws z.1 = z.2 := by
  induction ws with
  | nil => exact fun z h => absurd h List.not_mem_nil
  | cons y r ih =>
    intro z hz
    rw [List.map_cons, List.nodup_cons] at nd
    unfold atD
    rcases List.mem_cons.mp hz with rfl | h
    · rw [List.find?_cons_of_pos (by simp)]
      rfl
    · have n : y.1 ≠ z.1 := fun e => nd.1 (by rw [e]; exact List.mem_map.mpr ⟨z, h, rfl⟩)
      rw [List.find?_cons_of_neg (by simpa using n)]
      exact ih nd.2 z h
/-- those that are not nought, in their own order -/
def bareL (ws : List (Pl × Int)) : List (Pl × Int) := ws.filter fun z => !decide (V.int z.2 = V.int 0)
def sumL (ks : List Str) (d : Nat) (ws am : List (Pl × Int)) : Int := ((placesOf ks d).map fun p => atD ws p * atD am p).sum
/-- _law_weights(pen, shape) -/
def spLWeights (K : PySem.W.Frag) : Sp := fun vs H Q _ => ∃ (p l : Addr) (ns : List Int) (a r : Int) (s : Addr) (ks : List Str) (d : Nat), vs = [.ref p, .ref s] ∧ PenAt H p l ns a r ∧ a ≤ 90000 ∧ ShapeAt K H s ks d ∧
  ∀ H' a' r' t ws, Keep p H H' → PenAt H' p l ns a' r' → a' ≤ a + 120 → H t = none → H' t = some (.dT (plD ws)) → Wts ks d ws → Q (.ref t) H'
/-- _law_bare(weights) -/
def spBare (K : PySem.W.Frag) : Sp := fun vs H Q _ => ∃ (t : Addr) (ws : List (Pl × Int)), vs = [.ref t] ∧ H t = some (.dT (plD ws)) ∧ (ws.map (·.1)).Nodup ∧ ws.length ≤ 40 ∧ ∀ H' t', Same H H' → H t' = none → H' t' = some (.dT (plD (bareL ws))) → Q (.ref t') H'
/-- _law_sum(shape, weights, amounts) -/
def spLSum (K : PySem.W.Frag) : Sp := fun vs H Q _ => ∃ (s t u : Addr) (ks : List Str) (d : Nat) (ws am : List (Pl × Int)), vs = [.ref s, .ref t, .ref u] ∧ ShapeAt K H s ks d ∧ H t = some (.dT (plD ws)) ∧ H u = some (.dT (plD am)) ∧ Bits ws ∧ Bits am ∧ ∀ H', Same H H' → Q (.int (sumL ks d ws am)) H'
/-- _law_some(pen, shape) -/
def spLSome (K : PySem.W.Frag) : Sp := fun vs H Q _ => ∃ (p l : Addr) (ns : List Int) (a r : Int) (s : Addr) (ks : List Str) (d : Nat), vs = [.ref p, .ref s] ∧ PenAt H p l ns a r ∧ a ≤ 90000 ∧ ShapeAt K H s ks d ∧
  ∀ H' a' r' t cs, ∀ ps : List Pl, Keep p H H' → PenAt H' p l ns a' r' → a' ≤ a + 40 → H t = none → H' t = some (.lst (cs.map V.ref)) → Keyed H' cs (ps.map plK) → ps.Sublist (placesOf ks d) → Q (.ref t) H'
section
variable {P : Program} {w : World} {K : PySem.W.Frag} {mg : Str → Option Value} {base : Heap} {fd : FuncData}
theorem ok_law_weights (T : Top w K mg) (D_law_draw : Def P w K mg base "_law_draw" 1 ["_law_pen_here", "_law_many"] spDraw) (D_law_pick : Def P w K mg base "_law_pick" 2 ["_law_pen_here", "_law_some_here"] spPick) (F : Fn K "_law_weights" s_law_weights fd) : FnOk P w K mg base CX0 3 (He.ga K "_law_weights") fd ["_law_pen_here", "_law_shape_here"] (spLWeights K) := by
  refine F.ok sc_law_weights (fun vs H Q E h => ?_) (fun cdv A outer s H vs Q E hr h => ?_)
  · obtain ⟨p, l, ns, a, r, sa, ks, d, rfl, _⟩ := h
    rfl
  · obtain ⟨p, l, ns, a, r, sa, ks, d, rfl, pen, ha, s0, k⟩ := h
    have hu := hr.units
    refine ⟨_, PSs.nox (pss_cons (ps_set (i := 2) sc_law_weights.nd rfl (by first | exact Or.inl rfl | exact Or.inr rfl) pe_dnewT)
      (pss_cons (ps_for PassesOwn.never rfl (pi_sqK (K := K) rfl (pe_fldK (K := K) rfl (pv 1) rfl)) (pg_name (i := 3) sc_law_weights.nd rfl (by first | exact Or.inl rfl | exact Or.inr rfl)) (pss_one (ps_if (pt_cmpR op_gt (pe_callD D_law_draw (hr.mono (by decide)) rfl (pa_cons (pv 0) (pa_cons pe_int pa_nil))) pe_int (nomark _)) (pss_one (ps_asg (pe_callD D_law_pick (hr.mono (by decide)) rfl (pa_cons (pv 0) (pa_cons (pe_lstN (pa_cons pe_int (pa_cons pe_int (pa_cons pe_int (pa_cons (pe_un un_neg pe_int) (pa_cons pe_int (pa_cons (pe_un un_neg pe_int) (pa_cons pe_int (pa_cons (pe_op op_pow pe_int pe_int) (pa_cons (pe_op op_sub (pe_callD D_law_draw (hr.mono (by decide)) rfl (pa_cons (pv 0) (pa_cons pe_int pa_nil))) pe_int) pa_nil)))))))))) pa_nil))) (pg_sub (pv 2) (pv 3) (set_dict (Nat.lt_of_le_of_lt (Nat.add_le_add_left (by decide) _) hu))))) pss_nil)))
      (pss_one (ps_ret (pv 2))))), ?_⟩
    intro t ht
    have st := same_new (o := .dT []) ht
    obtain ⟨e1, t1, t2, t3, cs, c⟩ := s0.core
    have n2p : t2 ≠ p := fun z => by
      rcases c.places with h | ⟨od, h⟩
      · rw [z, pen.pen] at h; cases h
      · rw [z, pen.pen] at h; cases h
    have lcs : cs.length ≤ 36 := by rw [c.len, length_places]; exact c.ok.few
    have c1 := c.kp (E := fun _ => False) (.of st) id
    refine ⟨_, rfl, sa, _, e1, _, _, rfl, c1.obj, T.k_Shape, T.a_Shape_places, rfl, t2, _, rfl, .inl (.inl c1.places), fun J wk => ?_⟩
    have lc : (cs.map V.ref).length = (placesOf ks d).length := by rw [List.length_map, c.len]
    have spl : (placesOf ks d).length ≤ 36 := by rw [← c.len]; exact lcs
    refine for_it wk (fun n σ' H' => ∃ a' r' ws cc, σ' = [some (.ref p), some (.ref sa), some (.ref t), cc] ∧ PenAt H' p l ns a' r' ∧ a' ≤ a + 3 * n ∧ H' t = some (.dT (plD ws)) ∧ Keep p H H' ∧ (ws.map (·.1)).Sublist ((placesOf ks d).take n) ∧ Bits ws)
      ⟨a, r, [], _, rfl, pen.same st, by omega, upd_same, Keep.of st, List.nil_sublist _, fun _ h => absurd h List.not_mem_nil⟩ (fun n σ' H' _ q => ?_) (fun n z σ' H1 H2 hn q yy => ?_) (fun σ' H' q => ?_)
    · obtain ⟨_, _, _, _, _, _, _, _, kp, _⟩ := q
      refine .of_eq fun o e => kp _ _ n2p ?_
      have n : t2 ≠ t := fun z => by
        rcases c.places with h | ⟨od, h⟩
        · rw [z, ht] at h; cases h
        · rw [z, ht] at h; cases h
      rw [upd_ne n] at e
      exact e
    · obtain ⟨a1, r1, ws, cc, rfl, pen1, la, et, kp, sub, bits⟩ := q
      obtain ⟨rfl, hz⟩ := yy
      rw [lc] at hn
      rw [List.getElem?_map] at hz
      obtain ⟨b, hb, rfl⟩ := Option.map_eq_some_iff.mp hz
      have hp : (placesOf ks d)[n]? = some (placesOf ks d)[n] := List.getElem?_eq_getElem hn
      have hbk := c.each n _ b hp hb
      have nbp : b ≠ p := fun z => by rw [z, pen.pen] at hbk; cases hbk
      have nbt : b ≠ t := fun z => by rw [z, ht] at hbk; cases hbk
      refine ⟨_, rfl, p, l, ns, a1, r1, 3, rfl, pen1, by omega, by decide, by decide, fun H2 a2 r2 dd k2 pen2 la2 d0 d1 => ⟨_, _, rfl, rfl, _, rfl, ?_⟩⟩
      have ntp : t ≠ p := fun z => by rw [z, pen1.pen] at et; cases et
      have et2 := k2 _ _ ntp et
      refine ite2 (fun _ => ?_) (fun _ => ?_)
      · refine ⟨_, rfl, _, rfl, _, rfl, _, _, rfl, rfl, ⟨by decide, by decide, by decide⟩, _, rfl, p, l, ns, a2, r2, 41, rfl, pen2, by omega, by decide, by decide, fun H3 a3 r3 d3 k3 pen3 la3 d30 d31 => ⟨_, _, rfl, rfl, ?_⟩⟩
        refine ⟨by show 9 ≤ sizeLine; decide, fun L hL _ => ?_⟩
        have s4 := same_new (o := .lst [.int 0, .int 1, .int 1, .int (-1), .int 2, .int (-3), .int 7, .int (10 ^ (30 : Int).toNat), .int (d3 - 20)]) hL
        have nL : L ≠ p := fun z => by rw [z, pen3.pen] at hL; cases hL
        refine ⟨p, l, L, ns, a3, r3, _, rfl, pen3.same s4, by omega, upd_same, nL, (by show 0 < 9; decide), (by show 9 < 1000000; decide), fun H5 a5 r5 v k5 pen5 la5 hv => ?_⟩
        obtain ⟨m, rfl, hm⟩ : ∃ m : Int, v = .int m ∧ m.natAbs < 2 ^ 110 := by
          simp only [List.mem_cons, List.not_mem_nil, or_false] at hv
          rcases hv with rfl | rfl | rfl | rfl | rfl | rfl | rfl | rfl | rfl
          · exact ⟨_, rfl, by decide⟩
          · exact ⟨_, rfl, by decide⟩
          · exact ⟨_, rfl, by decide⟩
          · exact ⟨_, rfl, by decide⟩
          · exact ⟨_, rfl, by decide⟩
          · exact ⟨_, rfl, by decide⟩
          · exact ⟨_, rfl, by decide⟩
          · exact ⟨_, rfl, by decide +kernel⟩
          · refine ⟨_, rfl, ?_⟩
            have : (d3 - 20).natAbs < 64 := by omega
            exact Nat.lt_of_lt_of_le this (by decide)
        have et5 := k5 _ _ ntp (s4 _ _ (k3 _ _ ntp et2))
        have kp5 : Keep p H H5 := (((kp.trans k2).trans k3).trans (Keep.of s4)).trans k5
        have hb5 := kp5 _ _ nbp hbk
        have out : (placesOf ks d)[n] ∉ ws.map (·.1) := fun z => by
          obtain ⟨m', hm'⟩ := List.mem_iff_getElem?.mp (sub.subset z)
          rw [List.getElem?_take] at hm'
          split at hm'
          · rename_i cc'
            obtain ⟨h1, h2⟩ := List.getElem?_eq_some_iff.mp hm'
            exact List.pairwise_iff_getElem.mp (nodup_places d c.ok.nd) m' n h1 hn cc' h2
          · cases hm'
        have lw : ws.length ≤ 36 := by
          have z := sub.length_le
          rw [List.length_map, List.length_take] at z
          omega
        refine ⟨_, rfl, _, rfl, t, _, rfl, DPut.t (k := plK (placesOf ks d)[n]) et5 hb5 (by unfold plD; rw [List.length_map, sizeLine_eq]; omega), ?_⟩
        rw [putK_out out]
        have nlt : l ≠ t := fun z => by
          have := pen5.nums
          rw [z, et5] at this
          cases this
        refine ⟨a5, r5, ws ++ [((placesOf ks d)[n], m)], _, rfl, PenAt.keep pen5 (Keep.upd) (Ne.symm ntp) nlt, by push_cast; omega, upd_same, ?_, ?_, ?_⟩
        · intro b' o' nb e
          have n' : b' ≠ t := fun z => by rw [z, ht] at e; cases e
          exact (upd_ne n').trans (kp5 b' o' nb e)
        · rw [List.map_append, take_snoc hp]
          exact sub.append (List.Sublist.refl _)
        · intro z hz'
          rcases List.mem_append.mp hz' with h | h
          · exact bits z h
          · rw [List.mem_singleton.mp h]; exact hm
      · refine ⟨a2, r2, ws, _, rfl, pen2, by push_cast; omega, et2, kp.trans k2, ?_, bits⟩
        rw [take_snoc hp]
        exact sub.trans (List.sublist_append_left _ _)
    · obtain ⟨a1, r1, ws, cc, rfl, pen1, la, et, kp, sub, bits⟩ := q
      rw [lc, List.take_length] at sub
      rw [lc] at la
      refine ⟨_, rfl, k H' a1 r1 t ws kp pen1 (by omega) ht et ⟨sub, bits⟩⟩
theorem ok_law_sum (T : Top w K mg) (F : Fn K "_law_sum" s_law_sum fd) : FnOk P w K mg base CX0 1 (He.ga K "_law_sum") fd ["_law_shape_here", "_law_weights_here", "_law_amounts"] (spLSum K) := by
  refine F.ok sc_law_sum (fun vs H Q E h => ?_) (fun cdv A outer s H vs Q E hr h => ?_)
  · obtain ⟨sa, t, u, ks, d, ws, am, rfl, _⟩ := h
    rfl
  · obtain ⟨sa, t, u, ks, d, ws, am, rfl, s0, et, eu, bw, ba, k⟩ := h
    have hu := hr.units
    refine ⟨_, PSs.nox (pss_one (ps_ret (pe_callB (cr_sum rfl) rfl T.n_sum (by decide +kernel) (pa_cons (pe_lc (own := [("_law_place", 3)]) (g := gName 3) (tt := tYes) (by rfl) sc_law_sum.nd (pi_sqK (K := K) rfl (pe_fldK (K := K) rfl (pv 0) rfl)) (blkOk_by (own := [("_law_place", 3)]) (N := ["_law_shape_here", "_law_weights_here", "_law_amounts", "_law_place"]) (sc := defScope s_law_sum) (by decide +kernel)) (fun _ _ _ _ _ => by exact (pg_name (i := 3) sc_law_sum.nd rfl (by first | exact Or.inl rfl | exact Or.inr rfl))) (fun _ _ _ _ _ => by exact pts_nil) (fun _ _ _ _ _ => by exact (pe_op op_mulW (pe_dget2 (Nat.lt_of_le_of_lt (Nat.add_le_add_left (by decide) _) hu) (pv 1) (pv 3) pe_int ⟨rfl, rfl, rfl, rfl⟩) (pe_dget2 (Nat.lt_of_le_of_lt (Nat.add_le_add_left (by decide) _) hu) (pv 2) (pv 3) pe_int ⟨rfl, rfl, rfl, rfl⟩)))) pa_nil)))), ?_⟩
    obtain ⟨e1, t1, t2, t3, cs, c⟩ := s0.core
    have lcs : cs.length ≤ 36 := by rw [c.len, length_places]; exact c.ok.few
    with_reducible refine retU ?_
    with_reducible refine cb1U ?_
    refine lc_keyed (j := 3) (fun _ => true) (fun key => .int (atD ws (plOf key) * atD am (plOf key))) (.inl (.inl c.places)) c.keyed (by rw [sizeLine_eq]; omega) (fun R r => ⟨_, rfl, sa, _, e1, _, _, rfl, c.obj, T.k_Shape, T.a_Shape_places, rfl, r⟩) (fun b key _ _ H1 Q' s q => q) (fun b key hk hb _ H1 Q' s q => ?_) fun D hD => ?_
    · obtain ⟨pl, _, rfl⟩ := List.mem_map.mp hk
      rw [plOf_plK] at q
      refine ⟨_, rfl, t, rfl, .inr ⟨_, .inl (s _ _ et)⟩, _, rfl, _, (.inr ⟨_, plK pl, b, .inl (s _ _ et), rfl, s _ _ hb, rfl⟩), ?_⟩
      rw [valV_plD]
      refine ⟨_, rfl, u, rfl, .inr ⟨_, .inl (s _ _ eu)⟩, _, rfl, _, (.inr ⟨_, plK pl, b, .inl (s _ _ eu), rfl, s _ _ hb, rfl⟩), ?_⟩
      rw [valV_plD]
      exact ⟨_, _, rfl, rfl, wide_mul (bw.at_ _) (ba.at_ _) (by decide) (by decide) (by decide), q⟩
    · have e : (((placesOf ks d).map plK).filter fun _ => true).map (fun key => V.int (atD ws (plOf key) * atD am (plOf key))) = ((placesOf ks d).map fun p => atD ws p * atD am p).map V.int := by
        rw [filt_all, List.map_map, List.map_map]
        refine List.map_congr_left fun p _ => ?_
        show V.int (atD ws (plOf (plK p)) * atD am (plOf (plK p))) = _
        rw [plOf_plK]
        rfl
      rw [e]
      exact ⟨D, _, rfl, .inl (.inl upd_same), k _ (same_new hD)⟩
end
end L2.K20
set_option Elab.async false
set_option linter.all false
set_option maxRecDepth 100000
set_option maxHeartbeats 4000000
/-! Weights without noughts, some places, weights in another order. -/
namespace L2.K20
open PySem PySem.Spec PyProof.Rows L2.RV
theorem valV_in {ws : List (Pl × Int)} (nd : (ws.map (·.1)).Nodup) : ∀ z ∈ ws, valV (plD ws) (plK z.1) = some (V.int z.2) := by
  induction ws with
  | nil => exact fun z h => absurd h List.not_mem_nil
  | cons y r ih =>
    intro z hz
    rw [List.map_cons, List.nodup_cons] at nd
    have e : plD (y :: r) = (plK y.1, V.int y.2) :: plD r := rfl
    rw [e]
    rcases List.mem_cons.mp hz with rfl | h
    · exact valV_pos rfl
    · have n : ¬ plK y.1 = plK z.1 := fun e => nd.1 (by rw [plK_inj.mp e]; exact List.mem_map.mpr ⟨z, h, rfl⟩)
      rw [valV_neg (p := (plK y.1, V.int y.2)) n]
      exact ih nd.2 z h
theorem merge_plD {ws : List (Pl × Int)} (nd : (ws.map (·.1)).Nodup) : mergeT [] (plD ws) = plD ws := by
  rw [mergeT_new, List.nil_append]
  · unfold plD
    rw [List.map_map]
    have := nodup_plK nd
    rw [List.map_map] at this
    exact this
  · exact fun _ _ _ h => absurd h List.not_mem_nil
def plData (p : Pl) : PyData := .tuple [.str p.1, .int p.2]
theorem dp_places {K : PySem.W.Frag} {H : Hp} : ∀ {bs : List Addr} {ps : List Pl}, Keyed H bs (ps.map plK) → DpAll K H (bs.map V.ref) (ps.map plData)
  | [], [], _ => .nil
  | [], _ :: _, h => absurd h.1 (by simp)
  | _ :: _, [], h => absurd h.1 (by simp)
  | b :: bs, p :: ps, h => by
    have h0 := h.2 0 b (plK p) rfl rfl
    refine .cons (.tup (SqT.of h0) (.cons (.str p.1) (.cons (.int _) .nil))) (dp_places ⟨?_, fun i c k hc hk => h.2 (i + 1) c k hc hk⟩)
    have := h.1
    simpa using this
theorem shaped_places {ps : List Pl} (h : ∀ p ∈ ps, PyData.strOk p.1 = true) : PyData.canLayAll0 (ps.map plData) = true ∧ PyData.depthAll (ps.map plData) ≤ 3 := by
  induction ps with
  | nil => exact ⟨by simp [PyData.canLayAll0], by simp [PyData.depthAll]⟩
  | cons p r ih =>
    obtain ⟨a, b⟩ := ih fun q hq => h q (List.mem_cons_of_mem _ hq)
    have c := h p List.mem_cons_self
    refine ⟨?_, ?_⟩
    · rw [List.map_cons]
      simp [PyData.canLayAll0, PyData.canLay0, plData, c, a]
    · rw [List.map_cons]
      simp only [PyData.depthAll, plData, PyData.depth]
      omega
theorem shaped_plist {ps : List Pl} (h : ∀ p ∈ ps, PyData.strOk p.1 = true) : SeqAt.shaped (.list (ps.map plData)) = true := by
  obtain ⟨a, b⟩ := shaped_places h
  have e : PyData.canLay0 (.list (ps.map plData)) = true := by simp only [PyData.canLay0]; exact a
  have d : (PyData.list (ps.map plData)).depth ≤ 64 := by simp only [PyData.depth]; omega
  unfold SeqAt.shaped
  rw [e, decide_eq_true d]
  rfl
theorem no_places {ps : List Pl} : PyData.eqv (.list (ps.map plData)) (.list []) = ps.isEmpty := by
  cases ps with
  | nil => rfl
  | cons p r => rfl
theorem keyed_erase {H : Hp} {bs : List Addr} {ks : List (List L2.Key)} (z : Keyed H bs ks) (j : Nat) : Keyed H (bs.eraseIdx j) (ks.eraseIdx j) := by
  refine ⟨by rw [List.length_eraseIdx, List.length_eraseIdx, z.1], fun i b k hb hk => ?_⟩
  rw [List.getElem?_eraseIdx] at hb hk
  split at hb
  · rename_i c
    rw [if_pos c] at hk
    exact z.2 i b k hb hk
  · rename_i c
    rw [if_neg c] at hk
    exact z.2 (i + 1) b k hb hk
/-- _law_mixed(pen, weights) -/
def spMixed (K : PySem.W.Frag) : Sp := fun vs H Q _ => ∃ (p l : Addr) (ns : List Int) (a r : Int) (t : Addr) (ks : List Str) (d : Nat) (ws : List (Pl × Int)), vs = [.ref p, .ref t] ∧ PenAt H p l ns a r ∧ a ≤ 90000 ∧ H t = some (.dT (plD ws)) ∧ Wts ks d ws ∧ ShOk ks d ∧
  ∀ H' a' r' t' vs, Keep p H H' → PenAt H' p l ns a' r' → a' ≤ a + 40 → H t' = none → H' t' = some (.dT (plD vs)) → vs.Perm ws → Q (.ref t') H'
section
variable {P : Program} {w : World} {K : PySem.W.Frag} {mg : Str → Option Value} {base : Heap} {fd : FuncData}
theorem ok_law_bare (T : Top w K mg) (F : Fn K "_law_bare" s_law_bare fd) : FnOk P w K mg base CX0 1 (He.ga K "_law_bare") fd ["_law_weights_here"] (spBare K) := by
  refine F.ok sc_law_bare (fun vs H Q E h => ?_) (fun cdv A outer s H vs Q E hr h => ?_)
  · obtain ⟨t, ws, rfl, _⟩ := h
    rfl
  · obtain ⟨t, ws, rfl, et, nd, few, k⟩ := h
    have hu := hr.units
    refine ⟨_, PSs.nox (pss_one (ps_ret (pe_callTy (call_dictT (Nat.lt_of_le_of_lt (Nat.add_le_add_left (by decide) _) hu) rfl) rfl T.n_dict (by decide +kernel) (pa_cons (pe_lock (pe_lc (own := [("_law_place", 1)]) (g := gName 1) (by rfl) sc_law_bare.nd (pi_keys (pv 0)) (blkOk_by (own := [("_law_place", 1)]) (N := ["_law_weights_here", "_law_place"]) (sc := defScope s_law_bare) (by decide +kernel)) (fun _ _ _ _ _ => by exact (pg_name (i := 1) sc_law_bare.nd rfl (by first | exact Or.inl rfl | exact Or.inr rfl))) (fun _ _ _ _ _ => by exact (pts_one (pt_cmpR (op_diffK (K := K) rfl hu) (pe_dget (Nat.lt_of_le_of_lt (Nat.add_le_add_left (by decide) _) hu) (pv 0) (pv 1) (fun _ _ => rfl)) pe_int (nomark _)))) (fun _ _ _ _ _ => by exact (pe_tup (pa_cons (pv 1) (pa_cons (pe_dget (Nat.lt_of_le_of_lt (Nat.add_le_add_left (by decide) _) hu) (pv 0) (pv 1) (fun _ _ => rfl)) pa_nil)))))) pa_nil)))), ?_⟩
    with_reducible refine retU ?_
    with_reducible refine cb1U ?_
    refine ⟨t, .dT (plD ws), et, True.intro, fun od => ?_⟩
    refine ⟨_, rfl, t, od, rfl, .inr ⟨plD ws, upd_same, fun D hD => ?_⟩⟩
    have lw : (plD ws).length = ws.length := List.length_map ..
    refine lc_it walk_keysT (fun i H' => ∃ qs : List Addr, H' D = some (.lst (qs.map V.ref)) ∧ Paired (PairAt H') qs (plD (bareL (ws.take i))) ∧ Same (upd H t (.frz od (.dT (plD ws)))) H') ⟨[], upd_same, .nil, same_new hD⟩ (fun i H' _ e => by obtain ⟨_, _, _, sm⟩ := e; exact sm _ _ upd_same) (fun i x H2 H3 lt e y => ?_) (fun H' e => ?_)
    · obtain ⟨qs, hDl, pr, sm⟩ := e
      obtain ⟨rfl, key, v, b, hkv, rfl, hb⟩ := y
      have hz : ws[i]? = some ws[i] := List.getElem?_eq_getElem (by rw [lw] at lt; exact lt)
      have ez : key = plK ws[i].1 := by
        unfold plD at hkv
        rw [List.getElem?_map, hz] at hkv
        cases hkv
        rfl
      subst ez
      have get : DGet H3 t (.ref b) (some (V.int ws[i].2)) := .inr ⟨plD ws, plK ws[i].1, b, .inr ⟨od, sm _ _ upd_same⟩, rfl, hb, (valV_in nd _ (List.getElem_mem _)).symm⟩
      have lq := pr.length
      refine ⟨rfl, ?_⟩
      refine ⟨_, rfl, _, rfl, t, _, rfl, get, .inl ⟨rfl, _, rfl, ?_⟩⟩
      have es : bareL (ws.take (i + 1)) = bareL (ws.take i) ++ (if (!decide (V.int ws[i].2 = V.int 0)) = true then [ws[i]] else []) := by
        rw [take_snoc hz]
        unfold bareL
        rw [List.filter_append]
        congr 1
        rw [List.filter_cons]
        rfl
      rw [es]
      cases c : (!decide (V.int ws[i].2 = V.int 0)) with
      | false =>
        rw [if_neg (by decide), List.append_nil]
        dsimp only
        rw [if_neg (by decide)]
        exact ⟨qs, hDl, pr, sm⟩
      | true =>
        rw [if_pos rfl]
        dsimp only
        rw [if_pos rfl]
        refine ⟨_, rfl, _, rfl, _, rfl, t, _, rfl, get, by show 2 ≤ sizeLine; decide, fun p np => ?_⟩
        have nD : D ≠ p := fun z => by rw [z, np] at hDl; cases hDl
        refine ⟨_, (upd_ne nD).trans hDl, ?_, qs ++ [p], ?_, ?_, fun c' o ec => ?_⟩
        · have z : (bareL (ws.take i)).length ≤ (ws.take i).length := List.length_filter_le _ _
          rw [List.length_take] at z
          unfold plD at lq
          rw [List.length_map] at lq
          rw [List.length_map, lq, sizeLine_eq]
          omega
        · rw [upd_same, List.map_append]
          rfl
        · have e2 : plD (bareL (ws.take i) ++ [ws[i]]) = plD (bareL (ws.take i)) ++ [(plK ws[i].1, V.int ws[i].2)] := by
            unfold plD
            rw [List.map_append]
            rfl
          rw [e2]
          have up : ∀ {c : Addr} {xs : List V}, H3 c = some (.tup xs) → (upd (upd H3 p (.tup [.ref b, .int ws[i].2])) D (.lst (qs.map V.ref ++ [V.ref p]))) c = some (.tup xs) := fun {c xs} e => by
            have n1 : c ≠ D := fun z => by rw [z, hDl] at e; cases e
            have n2 : c ≠ p := fun z => by rw [z, np] at e; cases e
            exact (upd_ne n1).trans ((upd_ne n2).trans e)
          refine Paired.snoc (Paired.mapP pr fun u v z => ?_) ⟨b, (upd_ne (Ne.symm nD)).trans upd_same, up hb⟩
          obtain ⟨q', z1, z2⟩ := z
          exact ⟨q', up z1, up z2⟩
        · have n1 : c' ≠ D := ne_of_none ec hD
          have n2 : c' ≠ p := fun z => by
            have := sm _ _ ec
            rw [z, np] at this
            cases this
          exact (upd_ne n1).trans ((upd_ne n2).trans (sm _ _ ec))
    · obtain ⟨qs, hDl, pr, sm⟩ := e
      rw [lw, List.take_length] at pr
      refine ⟨sm _ _ upd_same, ?_⟩
      have nDt : D ≠ t := fun z => by rw [z, upd_same] at hD; cases hD
      have un : ∀ {b : Addr} {o : HO}, b ≠ t → H' b = some o → (upd H' t (.dT (plD ws))) b = some o := fun n e => (upd_ne n).trans e
      have sH : Same H (upd H' t (.dT (plD ws))) := fun b o ob => by
        by_cases n : b = t
        · subst n
          rw [upd_same, ← et, ob]
        · exact (upd_ne n).trans (sm _ _ ((upd_ne n).trans ob))
      have tt : ∀ {c : Addr} {xs : List V}, H' c = some (.tup xs) → c ≠ t := fun e z => by
        have := sm t _ upd_same
        rw [z, this] at e
        cases e
      refine ⟨D, qs, plD (bareL ws), rfl, .inl (.inl (un nDt hDl)), Paired.mapP pr fun u v z => ?_, fun p hp => ?_⟩
      · obtain ⟨q', z1, z2⟩ := z
        exact ⟨q', un (tt z1) z1, un (tt z2) z2⟩
      · have ndb : ((bareL ws).map (·.1)).Nodup := nd.sublist (List.filter_sublist.map _)
        rw [merge_plD ndb]
        exact k _ p (sH.trans (same_new hp)) (sH.free hp) upd_same
theorem ok_law_some (T : Top w K mg) (D_law_draw : Def P w K mg base "_law_draw" 1 ["_law_pen_here", "_law_many"] spDraw) (F : Fn K "_law_some" s_law_some fd) : FnOk P w K mg base CX0 2 (He.ga K "_law_some") fd ["_law_pen_here", "_law_shape_here"] (spLSome K) := by
  refine F.ok sc_law_some (fun vs H Q E h => ?_) (fun cdv A outer s H vs Q E hr h => ?_)
  · obtain ⟨p, l, ns, a, r, sa, ks, d, rfl, _⟩ := h
    rfl
  · obtain ⟨p, l, ns, a, r, sa, ks, d, rfl, pen, ha, s0, k⟩ := h
    have hu := hr.units
    refine ⟨_, PSs.nox (pss_one (ps_ret (pe_lc (own := [("_law_place", 2)]) (g := gName 2) (by rfl) sc_law_some.nd (pi_sqK (K := K) rfl (pe_fldK (K := K) rfl (pv 1) rfl)) (blkOk_by (own := [("_law_place", 2)]) (N := ["_law_pen_here", "_law_shape_here", "_law_place"]) (sc := defScope s_law_some) (by decide +kernel)) (fun _ _ _ _ _ => by exact (pg_name (i := 2) sc_law_some.nd rfl (by first | exact Or.inl rfl | exact Or.inr rfl))) (fun _ _ _ _ _ => by exact (pts_one (pt_cmpR (op_sameK (K := K) rfl hu) (pe_callD D_law_draw (hr.mono (by decide)) rfl (pa_cons (pv 0) (pa_cons pe_int pa_nil))) pe_int (nomark _)))) (fun _ _ _ _ _ => by exact (pv 2))))), ?_⟩
    obtain ⟨e1, t1, t2, t3, cs, c⟩ := s0.core
    have n2p : t2 ≠ p := fun z => by
      rcases c.places with h | ⟨od, h⟩
      · rw [z, pen.pen] at h; cases h
      · rw [z, pen.pen] at h; cases h
    have lcs : cs.length ≤ 36 := by rw [c.len, length_places]; exact c.ok.few
    have lc : (cs.map V.ref).length = (placesOf ks d).length := by rw [List.length_map, c.len]
    have spl : (placesOf ks d).length ≤ 36 := by rw [← c.len]; exact lcs
    refine ⟨_, rfl, sa, _, e1, _, _, rfl, c.obj, T.k_Shape, T.a_Shape_places, rfl, t2, _, rfl, .inl (.inl c.places), fun J wk D hD => ?_⟩
    refine lc_it wk (fun n H' => ∃ a' r' bs, ∃ ps : List Pl, PenAt H' p l ns a' r' ∧ a' ≤ a + n ∧ H' D = some (.lst (bs.map V.ref)) ∧ Keyed H' bs (ps.map plK) ∧ Keep p H H' ∧ ps.Sublist ((placesOf ks d).take n))
      ⟨a, r, [], [], pen.same (same_new hD), by omega, upd_same, ⟨rfl, fun i b key hb _ => by simp at hb⟩, Keep.of (same_new hD), List.nil_sublist _⟩ (fun n H' _ q => ?_) (fun n z H1 H2 hn q yy => ?_) (fun H' q => ?_)
    · obtain ⟨_, _, _, _, _, _, _, _, kp, _⟩ := q
      exact .of_eq fun o e => kp _ _ n2p e
    · obtain ⟨a1, r1, bs, ps, pen1, la, hDl, kd, kp, sub⟩ := q
      obtain ⟨rfl, hz⟩ := yy
      rw [lc] at hn
      rw [List.getElem?_map] at hz
      obtain ⟨b, hb, rfl⟩ := Option.map_eq_some_iff.mp hz
      have hp : (placesOf ks d)[n]? = some (placesOf ks d)[n] := List.getElem?_eq_getElem hn
      have hbk := c.each n _ b hp hb
      have nbp : b ≠ p := fun z => by rw [z, pen.pen] at hbk; cases hbk
      refine ⟨rfl, _, rfl, p, l, ns, a1, r1, 2, rfl, pen1, by omega, by decide, by decide, fun H3 a2 r2 dd k2 pen2 la2 d0 d1 => .inl ⟨rfl, _, rfl, ?_⟩⟩
      have nDp : D ≠ p := fun z => by rw [z, pen.pen] at hD; cases hD
      have hDl2 := k2 _ _ nDp hDl
      have kd2 : Keyed H3 bs (ps.map plK) := ⟨kd.1, fun i b' key hb' hk' => by
        have e := kd.2 i b' key hb' hk'
        exact k2 _ _ (fun z => by rw [z, pen1.pen] at e; cases e) e⟩
      have hb3 := (kp.trans k2) _ _ nbp hbk
      rw [take_snoc hp]
      cases cc : decide (V.int dd = V.int 0) with
      | false =>
        dsimp only
        rw [if_neg (by decide)]
        exact ⟨a2, r2, bs, ps, pen2, by push_cast; omega, hDl2, kd2, kp.trans k2, sub.trans (List.sublist_append_left _ _)⟩
      | true =>
        dsimp only
        rw [if_pos rfl]
        have lps : ps.length ≤ 36 := by
          have z := sub.length_le
          rw [List.length_take, ← c.len] at z
          omega
        refine ⟨_, rfl, _, hDl2, by rw [List.length_map, kd2.1, List.length_map, sizeLine_eq]; omega, ?_⟩
        have up : ∀ {c' : Addr} {o : HO}, c' ≠ D → H3 c' = some o → (upd H3 D (.lst (bs.map V.ref ++ [V.ref b]))) c' = some o := fun n e => (upd_ne n).trans e
        have nlD : l ≠ D := fun z => by
          have := pen.nums
          rw [z, hD] at this
          cases this
        refine ⟨a2, r2, bs ++ [b], ps ++ [(placesOf ks d)[n]], PenAt.keep pen2 Keep.upd (Ne.symm nDp) nlD, by push_cast; omega, by rw [upd_same, List.map_append]; rfl, ?_, fun c' o nc e => up (ne_of_none e hD) ((kp.trans k2) c' o nc e), ?_⟩
        · rw [List.map_append]
          refine Keyed.snoc ⟨kd2.1, fun i b' key hb' hk' => ?_⟩ (up (fun z => by rw [z, hDl2] at hb3; cases hb3) hb3)
          have e := kd2.2 i b' key hb' hk'
          exact up (fun z => by rw [z, hDl2] at e; cases e) e
        · exact sub.append (List.Sublist.refl _)
    · obtain ⟨a1, r1, bs, ps, pen1, la, hDl, kd, kp, sub⟩ := q
      rw [lc, List.take_length] at sub
      rw [lc, ← c.len] at la
      exact k H' a1 r1 D bs ps kp pen1 (by omega) hD hDl kd sub
end
end L2.K20
set_option Elab.async false
set_option linter.all false
set_option maxRecDepth 100000
set_option maxHeartbeats 4000000
/-! Walks over an instance of an own class whose __iter__ answers the iterator of a tuple. -/
namespace L2.RV
open PySem PySem.Spec PyProof.Rows
/-- a tuple's iterator that has not begun -/
def ItT (t it : Addr) : HO := .ext fun h => h.IsTupleIter it t 0
theorem itT_ok {P : Program} {w : World} {H : Hp} {h : Heap} {t it : Addr} (e : h.IsTupleIter it t 0) : ObjOk P w H h it (ItT t it) := by
  obtain ⟨o, q, c, d⟩ := id e
  exact ⟨e, ⟨o, q⟩, fun h1 h2 z k => by
    obtain ⟨o1, q1, c1, d1⟩ := z
    exact ⟨o1, k _ q1, c1, d1⟩⟩
/-- iter(t) of a tuple -/
def rIterT (K : PySem.W.Frag) (n : Nat) : List V → Hp → VK → Prop := fun xs H Q => ∃ (t : Addr) (zs : List V), xs = [.ref t] ∧ SqT K H t zs ∧ ∀ it, H it = none → n ≤ it → Q (.ref it) (upd H it (ItT t it))
theorem call_iterT {X : Cx} : CallR X (.builtin "iter") (rIterT X.K X.s_0.heap.objs.size) := by
  intro pins s σ H xs us Q I r h
  obtain ⟨t, zs, rfl, hq, q⟩ := h
  obtain ⟨its, rv, p, hz⟩ := I.tuple hq
  obtain ⟨u, rfl, ru⟩ := vals1 r
  cases ru
  have ent := PySem.W.kdk_entry_iter
  have arg := PySem.W.kdk_args_iter (Value.ref t)
  refine Calls.call_function_entry (by decide +kernel) (by decide +kernel) ent arg (?_ : wpAny _ _ (Builtin.«iter» _) _ _ _)
  unfold Builtin.«iter»
  refine wpAny_bind (m := someArgs "iter" 1 2 _)
    (wpAny_of_eq (a := [Value.ref t]) (by first | rfl | kernel_rfl!) ?_)
  refine wpAny_bind (m := pyIter (Value.ref t))
    (wpAny_pyIter_tuple (show s.heap.IsTuple t its.toArray from p) (wpAny_pure ⟨_, rfl, ?_⟩))
  have new : (s.heap.push { cls := .type "tuple_iterator", data := .fields #[.ref t, .int 0 0] }).IsTupleIter s.heap.objs.size t 0 := ⟨_, Heap.get?_push_size _ rfl, rfl, rfl⟩
  exact ⟨.ref s.heap.objs.size, _, I.laid (t' := s.toks) (fun b o e => Heap.get?_push_of_some _ e) (Nat.le_refl _) (itT_ok new), rfl, q _ (I.hok.fresh (Nat.le_refl _)) I.sz⟩
/-- a def of some parameters, by place; its promise may speak of the number of objects ahead of the call -/
structure FnN (P : Program) (w : World) (K : PySem.W.Frag) (mg : Str → Option Value) (base : Heap) (k : Nat) (f : Addr) (sp : Nat → Sp) : Prop where
  run : ∀ (A : Around) (outer : List Env) (s : Shared) (H : Hp) (us : List Value) (vs : List V) (Q : VK) (E : XK), Room k A → Env0 P w K mg base A outer s H → Vals vs us → sp s.heap.objs.size vs H Q E →
    codeAny (model P w) A (.call (.ref f) ⟨us, []⟩) (CR CX0 outer P w H s Q E) s
theorem FunD.okN {P : Program} {w : World} {K : PySem.W.Frag} {mg : Str → Option Value} {base : Heap} {x qual : Str} {params : Arguments} {body : List Stmt} {scope : Scope} {f : Addr} {fd : FuncData} {N ps : List Str} {k : Nat} {sp : Nat → Sp}
    (F : FunD K x qual params body scope [] [] f fd) (b : Binds K fd ps []) (S : FnScope N ps scope) (len : ∀ n vs H Q E, sp n vs H Q E → vs.length = ps.length)
    (go : ∀ (cdv : Value) (A : Around) (outer : List Env) (s : Shared) (H : Hp) (vs : List V) (Q : VK) (E : XK), Room k (A.deeper (envOfC qual scope s.heap.objs.size f cdv)) → sp s.heap.objs.size vs H Q E →
      ∃ t, PSs (cxOf CX0 P w K mg base N qual scope f cdv A outer s H E) body t ∧ t { nx := fun _ H' => Q .non H', rt := Q } (start N vs) H) : FnN P w K mg base (k + 1) f sp := by
  obtain ⟨oc, od, dV, kV, doc, pm, an, cdv, ct, osl, rfl, lk, hcd, _, _⟩ := F.ex
  refine ⟨fun A outer s H us vs Q E hr e0 r hsp => ?_⟩
  have hl := len _ _ _ _ _ hsp
  have kept := fun b o (e : base.get? b = some o) => (e0.bs b o e).1
  have KX := e0.mod.kin.keeps kept
  have bd := b s us KX (by rw [List.append_nil, ← r.length]; exact hl)
  rw [List.append_nil] at bd
  refine codeAny_call_function hr.depth (KX _ _ lk) rfl S.co S.gen rfl (PySem.W.codeRec_of KX hcd) (bd _ _ _ _ ?_)
  refine wpAny_newFunctionEnv_cells S.kind (fun y hy => ?_) fun env he s1 x => ?_
  · have hp := S.par y.1 (List.of_mem_zip (show (y.1, y.2) ∈ ps.zip us from hy)).1
    exact hp.imp id fun q => ⟨q, PySem.W.cellsFrom_some _ _ _ (.inl q)⟩
  · subst he
    obtain ⟨t, ht, hq⟩ := go cdv A outer s H vs Q E (hr.deeper _) hsp
    have I : Inv (cxOf CX0 P w K mg base N qual scope f cdv A outer s H E) [] (start N vs) H s1 :=
      inv_start S hr.hd e0 hl r x
    have lim := e0.mod.nolimit.keeps kept
    refine ⟨lim.keeps x.toInCall.keep, codeAny_func (wpAny_mono (ht.run [] s1 (start N vs) H _ I hq) (fun fl s' hs => ?_) fun _ _ z => z)⟩
    cases fl with
    | ret u => obtain ⟨v, σ', H', J, rv, q⟩ := hs; exact ⟨v, H', J.os, J.bare, J.base, J.hok, rv, q⟩
    | next => obtain ⟨σ', H', J, q⟩ := hs; exact ⟨.non, H', J.os, J.bare, J.base, J.hok, rfl, q⟩
    | brk => obtain ⟨_, _, _, q⟩ := hs; exact q.elim
    | cont => obtain ⟨_, _, _, q⟩ := hs; exact q.elim
/-- C's __iter__, with its promise -/
structure IterS (P : Program) (w : World) (K : PySem.W.Frag) (mg : Str → Option Value) (base : Heap) (C : Addr) (k : Nat) (sp : Nat → Sp) : Prop where
  ex : ∃ f, Meth K C "__iter__" f ∧ FnN P w K mg base k f sp
/-- over an instance of C -/
def iOwnT (K : PySem.W.Frag) (C : Addr) (sp : Nat → Sp) (te : TE) : TI := fun σ H R => te σ H fun x H1 => ∃ a dx fs, x = .ref a ∧ H1 a = some (.ins C dx fs) ∧
  ∀ n E, sp n [x] H1 (fun r H2 => ∃ it t, r = .ref it ∧ H2 it = some (ItT t it) ∧ n ≤ it ∧ R (Itt K t) (ItX.dropH H2 it)) E
theorem pi_ownT {X : Cx} {tg e : Expr} {te : TE} {C : Addr} {k : Nat} {sp : Nat → Sp} (D : IterS X.prog X.w X.K X.mg X.base C k sp) (hr : Room k X.A) (he : PE X e te) : PI X tg e (iOwnT X.K C sp te) := by
  obtain ⟨f, M, F⟩ := D.ex
  refine ⟨fun pins s σ H R I h => ?_⟩
  refine thn (he.run pins s σ H _ I h) fun v s1 ⟨x, H1, I1, r1, a, dx, fs, ex, ea, q⟩ => ?_
  subst ex
  cases r1
  obtain ⟨ox, od, J⟩ := ins_at I1 ea
  obtain ⟨m, hF⟩ := I1.fr
  refine PySem.W.owit_iter hF I1.ok.mod.kin J M.at_ M.fn (wpAny_call (codeAny_mono (F.run X.A X.stack s1 H1 [.ref a] [.ref a] _ (fun _ _ _ => False) hr I1.env0 (.cons rfl .nil) (q s1.heap.objs.size _)) fun r s2 hq => ?_))
  cases r with
  | error e => exact pass_CX0 pins σ H1 s1 e s2 I1 hq
  | ok fl =>
    cases fl with
    | next => exact hq.elim
    | brk => exact hq.elim
    | cont => exact hq.elim
    | ret u =>
      obtain ⟨v, H2, I2, rv, it, t, rfl, hi, hn, qr⟩ := I1.after hq
      cases rv
      have st : s2.heap.IsTupleIter it t 0 := (I2.hok it _ hi).1
      refine wpAny_specialOf (name := Str.ofString "__next__") st.typeIs PySem.F.slot_tuple_iterator_next.lookup ?_
      exact ⟨it, [it], _, _, ItX.dropH H2 it, rfl, ItX.inv_drop I2 hi, turn_tuple t it, st, fun b hb => by
        rw [List.mem_singleton.mp hb]
        exact ItX.inv_fp I2 hi (Nat.le_trans I1.sz hn), qr⟩
end L2.RV
set_option Elab.async false
set_option linter.all false
set_option maxRecDepth 100000
set_option maxHeartbeats 4000000
/-! len(o) by an own __len__. -/
namespace L2.RV
open PySem PySem.Spec PyProof.Rows
section
variable {X : Cx} {CX : CXT} {C : Addr} {k : Nat} {ps : List Str} {sp : Sp} {E : XK}
theorem call_lenO (D : MethS CX X.prog X.w X.K X.mg X.base C "__len__" k ps sp) (hr : Room (k + 1) X.A) (hx : Passes CX X E) : CallR X (.builtin "len") (rSelf C sp E fun Q r H' => ∃ n : Int, r = .int n ∧ (0 ≤ n ∧ n < 2 ^ 63) ∧ Q r H') := by
  obtain ⟨f, fd, M, fi, bd, F⟩ := D.ex
  intro pins s σ H xs us Q I r h
  obtain ⟨a, dx, fs, rfl, e, q⟩ := h
  obtain ⟨u, rfl, ru⟩ := vals1 r
  cases ru
  obtain ⟨ox, od, J⟩ := ins_at I e
  obtain ⟨n, hF⟩ := I.fr
  refine PySem.W.len_K hF I.ok.mod.kin J M.at_ M.fn (thn (run_at (vs := [.ref a]) F bd hr.in1 rfl hx I (.cons rfl .nil) q) ?_)
  rintro r s1 ⟨z, H1, I1, rz, n, rfl, lim, q1⟩
  obtain ⟨t, rfl⟩ := rz
  exact ⟨lim, .int n, H1, I1.tok _, ⟨_, rfl⟩, q1⟩
end
end L2.RV
set_option Elab.async false
set_option linter.all false
set_option maxRecDepth 100000
set_option maxHeartbeats 4000000
/-! Books: what is asked of those that are handed, what a book is, its questions by names. -/
namespace L2.K20
open PySem PySem.Spec PyProof.Rows L2.RV
/-- a book's entries: names, and where their questions stand -/
abbrev BL := List (Str × Addr)
def bD (es : BL) : List (L2.Key × V) := es.map fun z => (Sum.inr z.1, V.ref z.2)
/-- what stands at a name -/
def bat (es : BL) (n : Str) : Option Addr := (es.find? fun z => decide (z.1 = n)).map (·.2)
theorem bD_length (es : BL) : (bD es).length = es.length := List.length_map ..
theorem bat_nil (n : Str) : bat [] n = none := rfl
theorem bat_cons (z : Str × Addr) (es : BL) (n : Str) : bat (z :: es) n = if z.1 = n then some z.2 else bat es n := by
  unfold bat
  by_cases h : z.1 = n
  · rw [if_pos h, List.find?_cons_of_pos (by simpa using h)]; rfl
  · rw [if_neg h, List.find?_cons_of_neg (by simpa using h)]
theorem valV_bD (es : BL) (n : Str) : valV (bD es) (Sum.inr n) = (bat es n).map V.ref := by
  induction es with
  | nil => rfl
  | cons z es ih =>
    rw [bat_cons]
    unfold bD valV at *
    rw [List.map_cons]
    by_cases h : z.1 = n
    · rw [if_pos h, List.find?_cons_of_pos (by rw [h]; exact decide_eq_true rfl)]; rfl
    · rw [if_neg h, List.find?_cons_of_neg (by simpa using h)]; exact ih
theorem bat_some {es : BL} {n : Str} {a : Addr} (h : bat es n = some a) : (n, a) ∈ es := by
  induction es with
  | nil => cases h
  | cons z es ih =>
    rw [bat_cons] at h
    split at h
    · rename_i e
      cases h
      rw [← e]
      exact List.mem_cons_self
    · exact List.mem_cons_of_mem _ (ih h)
theorem bat_none {es : BL} {n : Str} : bat es n = none ↔ n ∉ es.map (·.1) := by
  induction es with
  | nil => exact ⟨fun _ => List.not_mem_nil, fun _ => rfl⟩
  | cons z es ih =>
    rw [bat_cons, List.map_cons, List.mem_cons, not_or]
    by_cases h : z.1 = n
    · rw [if_pos h]; exact ⟨(fun z => nomatch z), fun w => absurd h.symm w.1⟩
    · rw [if_neg h, ih]; exact ⟨fun w => ⟨fun e => h e.symm, w⟩, fun w => w.2⟩
theorem bat_mem {es : BL} (nd : (es.map (·.1)).Nodup) {z : Str × Addr} (h : z ∈ es) : bat es z.1 = some z.2 := by
  induction es with
  | nil => cases h
  | cons y es ih =>
    rw [bat_cons]
    rcases List.mem_cons.mp h with rfl | m
    · exact if_pos rfl
    · rw [if_neg fun e : y.1 = z.1 => (List.nodup_cons.mp nd).1 (by show y.1 ∈ _; rw [e]; exact List.mem_map_of_mem m)]
      exact ih (List.nodup_cons.mp nd).2 m
/-- a book's objects: its shape at s, its dict at t -/
structure BookC (K : PySem.W.Frag) (H : Hp) (a dx s t : Addr) (es : BL) : Prop where
  obj : H a = some (.ins (He.ga K "Book") dx [("shape", .ref s), ("_questions", .ref t)])
  own : H dx = some (.own a)
  dic : H t = some (.dK (bD es))
theorem BookC.of {K : PySem.W.Frag} {H : Hp} {a dx s t : Addr} {es : BL} (c : BookC K H a dx s t es) : OfShape K H "Book" a s := ⟨dx, _, c.obj, rfl⟩
theorem BookC.kx {K : PySem.W.Frag} {E : Addr → Prop} {H H' : Hp} {a dx s t : Addr} {es : BL} (c : BookC K H a dx s t es) (k : Kx E H H') : BookC K H' a dx s t es :=
  ⟨k.kp.fix _ _ True.intro c.obj, k.kp.fix _ _ True.intro c.own, k.dk _ _ c.dic⟩
/-- a book whose dict may be locked -/
structure BookR (K : PySem.W.Frag) (H : Hp) (a dx s t : Addr) (es : BL) : Prop where
  obj : H a = some (.ins (He.ga K "Book") dx [("shape", .ref s), ("_questions", .ref t)])
  dic : Rd H t (.dK (bD es))
theorem BookC.rd {K : PySem.W.Frag} {H : Hp} {a dx s t : Addr} {es : BL} (c : BookC K H a dx s t es) : BookR K H a dx s t es := ⟨c.obj, .inl c.dic⟩
/-- len(book) -/
def spBookLen (K : PySem.W.Frag) : Sp := fun vs H Q _ => ∃ x dx s t es, vs = [.ref x] ∧ BookC K H x dx s t es ∧ Q (.int es.length) H
/-- name in book -/
def spBookHas (K : PySem.W.Frag) : Sp := fun vs H Q _ => ∃ x dx s t es y, vs = [.ref x, y] ∧ BookR K H x dx s t es ∧ ((∃ n, y = .str n ∧ Q (.bl (bat es n).isSome) H) ∨ ∃ u, TyX K H y u ∧ PySem.W.kitOne K u (.type "str") = some false ∧ Q (.bl false) H)
/-- book[name] -/
def spBookAt (K : PySem.W.Frag) : Sp := fun vs H Q _ => ∃ x dx s t es n a, vs = [.ref x, .str n] ∧ BookR K H x dx s t es ∧ bat es n = some a ∧ Q (.ref a) H
/-- what is asked of a name and its question, behind others -/
def spPair (K : PySem.W.Frag) : Sp := fun vs H Q _ => ∃ s p t n a sq ks d ls e es, vs = [.ref s, .ref p, .ref t] ∧ ShapeAt K H s ks d ∧ H p = some (.tup [.str n, .ref a]) ∧ H t = some (.dK (bD es)) ∧ n.length ≤ sizeLine ∧ isName n = true ∧ OfShape K H "Question" a sq ∧ ShapeAt K H sq ls e ∧ shapeEq ls e ks d = true ∧ bat es n = none ∧ Q .non H
section
variable {P : Program} {w : World} {K : PySem.W.Frag} {mg : Str → Option Value} {base : Heap} {fd : FuncData}
theorem ok_check_shape_books (T : Top w K mg) (R_BadBook : RzX P w K mg base "BadBook" (ca K 8) ["part"]) (F : FnA K "check_shape_books" "check_shape" s_check_shape_books fd) : FnOk P w K mg base (L2.CX P w) 3 (He.ga K "check_shape_books") fd ["shape"] (spIns K "Shape") := by
  refine F.ok sc_check_shape_books (fun vs H Q E h => ?_) (fun cdv A outer s H vs Q E hr h => ?_)
  · obtain ⟨a, rfl, _⟩ := h
    rfl
  · obtain ⟨a, rfl, o, k⟩ := h
    refine ⟨_, (pss_one (ps_if (pt_not (pt_val (pe_callB call_isi rfl T.n_isinstance (by decide +kernel) (pa_cons (pv 0) (pa_cons (pe_glob (v := .ref (He.ga K "Shape")) rfl T.g_Shape rfl) pa_nil))))) (pss_one (ps_rz R_BadBook rfl (hr.mono (by decide)) (takes_of rfl rfl rfl rfl) rfl (pa_cons pe_str pa_nil))) pss_nil)), ?_⟩
    obtain ⟨ty, kt⟩ := ins_kit T.o_Shape T.o_Shape T.k_Shape o (by decide)
    exact ⟨_, rfl, _, _, _, _, _, rfl, .own _, ty, kt, _, rfl, k⟩
theorem ok_check_other_books (T : Top w K mg) (S_Shape_eq : MethS CX0 P w K mg base (He.ga K "Shape") "__eq__" 2 ["self", "other"] (spShapeEq K)) (R_BadBook : RzX P w K mg base "BadBook" (ca K 8) ["part"]) (F : FnA K "check_other_books" "check_other" s_check_other_books fd) : FnOk P w K mg base (L2.CX P w) 4 (He.ga K "check_other_books") fd ["book", "other"] (spOther K "Book") := by
  refine F.ok sc_check_other_books (fun vs H Q E h => ?_) (fun cdv A outer s H vs Q E hr h => ?_)
  · obtain ⟨a, b, s, t, ks, d, ls, e, rfl, _⟩ := h
    rfl
  · obtain ⟨a, b, s, t, ks, d, ls, e, rfl, o1, o2, s1, s2, eq, k⟩ := h
    have hu := hr.units
    refine ⟨_, (pss_one (ps_if (PW.pt (pw_or (pt_not (pt_val (pe_callB call_isi rfl T.n_isinstance (by decide +kernel) (pa_cons (pv 1) (pa_cons (pe_glob (v := .ref (He.ga K "Book")) rfl T.g_Book rfl) pa_nil))))) (pw_or1 (pt_cmpR (op_neO S_Shape_eq T.o_Shape.obj T.o_Shape.ne (hr.mono (by decide)) pass_CX0) (pe_fldK (K := K) rfl (pv 1) rfl) (pe_fldK (K := K) rfl (pv 0) rfl) (nomark _))))) (pss_one (ps_rz R_BadBook rfl (hr.mono (by decide)) (takes_of rfl rfl rfl rfl) rfl (pa_cons pe_str pa_nil))) pss_nil)), ?_⟩
    obtain ⟨ty, kt⟩ := ins_kit T.o_Book T.o_Book T.k_Book o2.ins (by decide)
    refine ⟨_, rfl, _, _, _, _, _, rfl, .own _, ty, kt, _, rfl, ?_⟩
    refine ite2 (fun c => absurd c (by decide)) (fun _ => ?_)
    obtain ⟨dx, fs, e1, e2⟩ := o1
    obtain ⟨dy, gs, e3, e4⟩ := o2
    obtain ⟨du, hs, e5⟩ := s2.ins
    obtain ⟨ty2, _⟩ := ins_kit T.o_Shape T.o_Shape T.k_Shape s1.ins (by decide)
    refine ⟨_, rfl, b, _, dy, _, _, rfl, e3, T.k_Book, T.a_Book_shape, e4, _, rfl, a, _, dx, _, _, rfl, e1, T.k_Book, T.a_Book_shape, e2, t, du, hs, _, rfl, e5, ty2, (T.o_Shape.kit "Shape" (by decide)).2, ?_⟩
    refine ⟨t, s, ls, e, ks, d, rfl, s2, s1, _, rfl, _, rfl, ?_⟩
    rw [eq]
    exact k
theorem ok_Book_len (T : Top w K mg) {f : Addr} (F : FunD K "__len__" "Book.__len__" (defArgs s_Book_len) (defBody s_Book_len) (defScope s_Book_len) [] [] f fd) : FnOk P w K mg base CX0 1 f fd ["self"] (spBookLen K) := by
  refine F.ok sc_Book_len (fun vs H Q E h => ?_) (fun cdv A outer s H vs Q E hr h => ?_)
  · obtain ⟨x, dx, s, t, es, rfl, _⟩ := h
    rfl
  · obtain ⟨x, dx, s, t, es, rfl, c, k⟩ := h
    have hu := hr.units
    refine ⟨_, PSs.nox (pss_one (ps_ret (pe_callB call_lenD rfl T.n_len (by decide +kernel) (pa_cons (pe_fldK (K := K) rfl (pv 0) rfl) pa_nil)))), ?_⟩
    refine ⟨_, rfl, x, _, dx, _, _, rfl, c.obj, T.k_Book, T.a_Book__questions, rfl, ?_⟩
    refine ⟨t, _, rfl, c.dic, ?_⟩
    rw [bD_length]
    exact k
theorem ok_Book_contains (T : Top w K mg) {f : Addr} (F : FunD K "__contains__" "Book.__contains__" (defArgs s_Book_contains) (defBody s_Book_contains) (defScope s_Book_contains) [] [] f fd) : FnOk P w K mg base CX0 1 f fd ["self", "x"] (spBookHas K) := by
  refine F.ok sc_Book_contains (fun vs H Q E h => ?_) (fun cdv A outer s H vs Q E hr h => ?_)
  · obtain ⟨x, dx, s, t, es, y, rfl, _⟩ := h
    rfl
  · obtain ⟨x, dx, s, t, es, y, rfl, c, k⟩ := h
    have hu := hr.units
    refine ⟨_, PSs.nox (pss_one (ps_ret (pe_and (pe_callB call_isi rfl T.n_isinstance (by decide +kernel) (pa_cons (pv 1) (pa_cons (pe_bltn (v := .ty "str") (u := .type "str") rfl T.n_str (by decide +kernel) rfl) pa_nil))) (pe_one (pe_cmp (pc_din (Nat.lt_of_le_of_lt (Nat.add_le_add_left (by decide) _) hu) (pv 1) (pe_fldK (K := K) rfl (pv 0) rfl)) rfl))))), ?_⟩
    rcases k with ⟨n, rfl, k⟩ | ⟨u, ty, ki, k⟩
    · obtain ⟨n0, ty, ki, kb, ks⟩ := (kinds_str (K := K) (H := H) n).ex
      refine ⟨_, rfl, _, _, _, _, _, rfl, .ty "str", ty, kit_ty ks, _, rfl, ?_⟩
      refine ⟨_, rfl, _, rfl, x, _, dx, _, _, rfl, c.obj, T.k_Book, T.a_Book__questions, rfl, t, _, rfl, .inl ⟨_, Sum.inr n, c.dic, rfl, rfl⟩, ?_⟩
      rw [valV_bD, Option.isSome_map]
      exact k
    · refine ⟨_, rfl, _, _, _, _, _, rfl, .ty "str", ty, ki, _, rfl, ?_⟩
      exact k
theorem ok_Book_at (T : Top w K mg) (S_Book_contains : MethS CX0 P w K mg base (He.ga K "Book") "__contains__" 1 ["self", "x"] (spBookHas K)) (R_NoName : RzX P w K mg base "NoName" (ca K 16) ["name"]) {f : Addr} (F : FunD K "__getitem__" "Book.__getitem__" (defArgs s_Book_getitem) (defBody s_Book_getitem) (defScope s_Book_getitem) [] [] f fd) : FnOk P w K mg base (L2.CX P w) 4 f fd ["self", "at"] (spBookAt K) := by
  refine F.ok sc_Book_getitem (fun vs H Q E h => ?_) (fun cdv A outer s H vs Q E hr h => ?_)
  · obtain ⟨x, dx, s, t, es, n, a, rfl, _⟩ := h
    rfl
  · obtain ⟨x, dx, s, t, es, n, a, rfl, c, ha, k⟩ := h
    have hu := hr.units
    refine ⟨_, (pss_cons (ps_if (pt_cmpR (op_notInO S_Book_contains (hr.mono (by decide)) pass_CX0) (pv 1) (pv 0) rfl) (pss_one (ps_rz R_NoName rfl (hr.mono (by decide)) (takes_of rfl rfl rfl rfl) rfl (pa_cons (pv 1) pa_nil))) pss_nil)
      (pss_one (ps_ret (pe_dget (Nat.lt_of_le_of_lt (Nat.add_le_add_left (by decide) _) hu) (pe_fldK (K := K) rfl (pv 0) rfl) (pv 1) (fun _ _ => rfl))))), ?_⟩
    refine ⟨_, rfl, _, rfl, x, dx, _, rfl, c.obj, x, dx, s, t, es, _, rfl, c, .inl ⟨n, rfl, _, rfl, _, rfl, ?_⟩⟩
    rw [ha]
    refine ⟨_, rfl, x, _, dx, _, _, rfl, c.obj, T.k_Book, T.a_Book__questions, rfl, _, rfl, t, _, rfl, .inl ⟨_, Sum.inr n, c.dic, rfl, ?_⟩, k⟩
    rw [valV_bD, ha]
    rfl
end
end L2.K20
set_option Elab.async false
set_option linter.all false
set_option maxRecDepth 100000
set_option maxHeartbeats 4000000
/-! A pair that is put into a book. -/
namespace L2.K20
open PySem PySem.Spec PyProof.Rows L2.RV
section
variable {P : Program} {w : World} {K : PySem.W.Frag} {mg : Str → Option Value} {base : Heap} {fd : FuncData}
theorem ok_check_pair (T : Top w K mg) (D_is_name : Def P w K mg base "is_name" 1 ["value"] spName) (D_is_question_of : Def P w K mg base "is_question_of" 3 ["value", "shape"] (spIsOf K "Question")) (R_BadBook : RzX P w K mg base "BadBook" (ca K 8) ["part"]) (R_BadName : RzX P w K mg base "BadName" (ca K 12) ["value"]) (R_Taken : RzX P w K mg base "Taken" (ca K 15) ["name"]) (F : Fn K "check_pair" s_check_pair fd) : FnOk P w K mg base (L2.CX P w) 4 (He.ga K "check_pair") fd ["shape", "pair", "ahead"] (spPair K) := by
  refine F.ok sc_check_pair (fun vs H Q E h => ?_) (fun cdv A outer s H vs Q E hr h => ?_)
  · obtain ⟨s, p, t, n, a, sq, ks, d, ls, e, es, rfl, _⟩ := h
    rfl
  · obtain ⟨sa, p, t, n, a, sq, ks, d, ls, e, es, rfl, s0, hp, ht, ln, hn, oq, sh, eq, no, k⟩ := h
    have hu := hr.units
    refine ⟨_, (pss_cons (ps_if (PW.pt (pw_or (pt_not (pt_val (pe_callB call_isi rfl T.n_isinstance (by decide +kernel) (pa_cons (pv 1) (pa_cons (pe_bltn (v := .ty "tuple") (u := .type "tuple") rfl T.n_tuple (by decide +kernel) rfl) pa_nil))))) (pw_or1 (pt_cmpR (op_diffK (K := K) rfl hu) (pe_callB (call_lenK (K := K) rfl) rfl T.n_len (by decide +kernel) (pa_cons (pv 1) pa_nil)) pe_int (nomark _))))) (pss_one (ps_rz R_BadBook rfl (hr.mono (by decide)) (takes_of rfl rfl rfl rfl) rfl (pa_cons pe_str pa_nil))) pss_nil)
      (pss_cons (ps_asg (pv 1) (pg_tup rfl (pgs_cons (pg_name (i := 3) sc_check_pair.nd rfl (by first | exact Or.inl rfl | exact Or.inr rfl)) (pgs_cons (pg_name (i := 4) sc_check_pair.nd rfl (by first | exact Or.inl rfl | exact Or.inr rfl)) pgs_nil))))
      (pss_cons (ps_if (pt_not (pt_val (pe_callD D_is_name (hr.mono (by decide)) rfl (pa_cons (pv 3) pa_nil)))) (pss_one (ps_rz R_BadName rfl (hr.mono (by decide)) (takes_of rfl rfl rfl rfl) rfl (pa_cons (pv 3) pa_nil))) pss_nil)
      (pss_cons (ps_if (pt_not (pt_val (pe_callD D_is_question_of (hr.mono (by decide)) rfl (pa_cons (pv 4) (pa_cons (pv 0) pa_nil))))) (pss_one (ps_rz R_BadBook rfl (hr.mono (by decide)) (takes_of rfl rfl rfl rfl) rfl (pa_cons pe_str pa_nil))) pss_nil)
      (pss_one (ps_if (pt_cmp (pc_din (Nat.lt_of_le_of_lt (Nat.add_le_add_left (by decide) _) hu) (pv 3) (pv 2)) rfl) (pss_one (ps_rz R_Taken rfl (hr.mono (by decide)) (takes_of rfl rfl rfl rfl) rfl (pa_cons (pv 3) pa_nil))) pss_nil)))))), ?_⟩
    refine ⟨_, rfl, _, _, _, _, _, rfl, .ty "tuple", .base (.tup hp), kit_ty (by decide +kernel : kitB "tuple" "tuple" = some true), _, rfl, ?_⟩
    refine ite2 (fun c => absurd c (by decide)) (fun _ => ?_)
    refine ⟨_, rfl, _, _, rfl, .inr ⟨_, SqT.of hp, rfl⟩, .inl ⟨rfl, _, rfl, ?_⟩⟩
    refine (if_neg (by show ¬ (!decide (V.int 2 = V.int 2)) = true; decide)).mpr ?_
    refine ⟨_, rfl, p, _, rfl, SqT.of hp, rfl, _, _, rfl, _, _, rfl, rfl, ?_⟩
    refine ⟨_, rfl, n, rfl, ln, _, rfl, ?_⟩
    rw [hn]
    refine ⟨_, rfl, _, rfl, a, sa, sq, ls, e, ks, d, rfl, oq, sh, s0, _, rfl, ?_⟩
    rw [eq]
    refine ⟨_, rfl, _, rfl, t, none, rfl, .inl ⟨_, Sum.inr n, .inl ht, rfl, ?_⟩, _, rfl, ?_⟩
    · rw [valV_bD, no]
      rfl
    · exact k
end
end L2.K20
set_option Elab.async false
set_option linter.all false
set_option maxRecDepth 100000
set_option maxHeartbeats 4000000
/-! Comprehensions over the keys of a dict by tuples. -/
namespace L2.RV
open PySem PySem.Spec PyProof.Rows
theorem unlock_same {H H' : Hp} {t : Addr} {od : Obj} {u : HO} (e : H t = some u) (sm : Same (upd H t (.frz od u)) H') : Same H (upd H' t u) := fun b o ob => by
  by_cases n : b = t
  · subst n
    rw [upd_same, ← e, ob]
  · exact (upd_ne n).trans (sm _ _ ((upd_ne n).trans ob))
theorem unlock_free {H : Hp} {t D : Addr} {od : Obj} {u : HO} (hD : upd H t (.frz od u) D = none) : D ≠ t ∧ H D = none := by
  have n : D ≠ t := fun z => by rw [z, upd_same] at hD; cases hD
  exact ⟨n, by rw [← hD, upd_ne n]⟩
/-- {k: f(k) for k in d} -/
theorem dc_keysL {td tv : TE} {j : Nat} {σ : L2.St} {H : Hp} {Q : VK} {t : Addr} {kvs : List (List L2.Key × V)} (f : List L2.Key → V → V) (e : H t = some (.dT kvs)) (small : kvs.length ≤ 1000) (hj : j < σ.length)
    (hi : ∀ od (R : V → Hp → Prop), R (.ref t) (upd H t (.frz od (.dT kvs))) → td σ (upd H t (.frz od (.dT kvs))) R)
    (hv : ∀ (od : Obj) (i : Nat) (b : Addr) (key : List L2.Key) (v : V), kvs[i]? = some (key, v) → ∀ (H1 : Hp) (Q' : VK), H1 b = some (.tup (key.map kV)) → Same (upd H t (.frz od (.dT kvs))) H1 → Q' (f key v) H1 → tv ((wipe σ [j]).set j (some (.ref b))) H1 Q')
    (k : ∀ D H', Same H H' → H D = none → H' D = some (.dT (mergeT [] (kvs.map fun kv => (kv.1, f kv.1 kv.2)))) → Q (.ref D) H') {vs : List Nat} (evs : vs = [j] := by rfl) : tLockE (tDcT (iKeys td) (gName j) tYes (tVar j) tv vs) σ H Q := by
  subst evs
  refine ⟨t, .dT kvs, e, True.intro, fun od => ?_⟩
  refine hi od _ ⟨t, od, rfl, .inr ⟨kvs, upd_same, fun D hD => ?_⟩⟩
  refine dcT_it walk_keysT (fun i H' => H' D = some (.dT (mergeT [] ((kvs.take i).map fun kv => (kv.1, f kv.1 kv.2)))) ∧ Same (upd H t (.frz od (.dT kvs))) H') ⟨upd_same, same_new hD⟩ (fun i H' _ e => e.2 _ _ upd_same) (fun i x H1 H2 lt e y => ?_) (fun H' e => ?_)
  · obtain ⟨hDl, sm⟩ := e
    obtain ⟨rfl, key, v, b, hkv, rfl, hb⟩ := y
    have lw : j < (wipe σ [j]).length := by rw [wipe_length]; exact hj
    refine ⟨wipe_set1 σ j _, ?_⟩
    with_reducible refine yesU ?_
    refine ⟨.ref b, List.getElem?_set_self lw, hv od i b key v hkv _ _ hb sm ⟨_, DPut.t hDl hb ?_, ?_, fun c o ec => ?_⟩⟩
    · have z := length_mergeT ((kvs.take i).map fun kv => (kv.1, f kv.1 kv.2)) []
      rw [List.length_map, List.length_take, List.length_nil] at z
      rw [sizeLine_eq]
      omega
    · rw [upd_same, take_snoc hkv, List.map_append, List.map_cons, List.map_nil, mergeT_snoc]
    · exact (upd_ne (ne_of_none ec hD)).trans (sm c o ec)
  · obtain ⟨hDl, sm⟩ := e
    rw [List.take_length] at hDl
    obtain ⟨n, fr⟩ := unlock_free hD
    exact ⟨sm _ _ upd_same, k D _ (unlock_same e sm) fr ((upd_ne n).trans hDl)⟩
/-- [(k, f(k)) for k in d] -/
theorem lc_pairsL {td te : TE} {j : Nat} {σ : L2.St} {H : Hp} {Q : VK} {t : Addr} {kvs : List (List L2.Key × V)} (f : List L2.Key → V → V) (e : H t = some (.dT kvs)) (small : kvs.length ≤ 1000) (hj : j < σ.length)
    (hi : ∀ od (R : V → Hp → Prop), R (.ref t) (upd H t (.frz od (.dT kvs))) → td σ (upd H t (.frz od (.dT kvs))) R)
    (hv : ∀ (od : Obj) (i : Nat) (b : Addr) (key : List L2.Key) (v : V), kvs[i]? = some (key, v) → ∀ (H1 : Hp) (Q' : VK), H1 b = some (.tup (key.map kV)) → Same (upd H t (.frz od (.dT kvs))) H1 → Q' (f key v) H1 → te ((wipe σ [j]).set j (some (.ref b))) H1 Q')
    (k : ∀ D qs H', Same H H' → H D = none → H' D = some (.lst (qs.map V.ref)) → Paired (PairAt H') qs (kvs.map fun kv => (kv.1, f kv.1 kv.2)) → Q (.ref D) H') {vs : List Nat} (evs : vs = [j] := by rfl) : tLockE (tLc (iKeys td) (gName j) tYes (tTup (tCons (tVar j) (tCons te tNil))) vs) σ H Q := by
  subst evs
  refine ⟨t, .dT kvs, e, True.intro, fun od => ?_⟩
  refine hi od _ ⟨t, od, rfl, .inr ⟨kvs, upd_same, fun D hD => ?_⟩⟩
  refine lc_it walk_keysT (fun i H' => ∃ qs : List Addr, H' D = some (.lst (qs.map V.ref)) ∧ Paired (PairAt H') qs ((kvs.take i).map fun kv => (kv.1, f kv.1 kv.2)) ∧ Same (upd H t (.frz od (.dT kvs))) H') ⟨[], upd_same, .nil, same_new hD⟩ (fun i H' _ e => by obtain ⟨_, _, _, sm⟩ := e; exact sm _ _ upd_same) (fun i x H2 H3 lt e y => ?_) (fun H' e => ?_)
  · obtain ⟨qs, hDl, pr, sm⟩ := e
    obtain ⟨rfl, key, v, b, hkv, rfl, hb⟩ := y
    have lq := pr.length
    have lw : j < (wipe σ [j]).length := by rw [wipe_length]; exact hj
    refine ⟨wipe_set1 σ j _, ?_⟩
    with_reducible refine yesU ?_
    refine ⟨.ref b, List.getElem?_set_self lw, hv od i b key v hkv _ _ hb sm ⟨by show 2 ≤ sizeLine; decide, fun p np => ?_⟩⟩
    have nD : D ≠ p := fun z => by rw [z, np] at hDl; cases hDl
    refine ⟨_, (upd_ne nD).trans hDl, ?_, qs ++ [p], ?_, ?_, fun c' o ec => ?_⟩
    · rw [List.length_map, List.length_take] at lq
      rw [List.length_map, lq, sizeLine_eq]
      omega
    · rw [upd_same, List.map_append]
      rfl
    · rw [take_snoc hkv, List.map_append, List.map_cons, List.map_nil]
      have up : ∀ {c : Addr} {xs : List V}, H3 c = some (.tup xs) → (upd (upd H3 p (.tup [.ref b, f key v])) D (.lst (qs.map V.ref ++ [V.ref p]))) c = some (.tup xs) := fun {c xs} e => by
        have n1 : c ≠ D := fun z => by rw [z, hDl] at e; cases e
        have n2 : c ≠ p := fun z => by rw [z, np] at e; cases e
        exact (upd_ne n1).trans ((upd_ne n2).trans e)
      refine Paired.snoc (Paired.mapP pr fun u v z => ?_) ⟨b, (upd_ne (Ne.symm nD)).trans upd_same, up hb⟩
      obtain ⟨q', z1, z2⟩ := z
      exact ⟨q', up z1, up z2⟩
    · have n1 : c' ≠ D := ne_of_none ec hD
      have n2 : c' ≠ p := fun z => by
        have := sm _ _ ec
        rw [z, np] at this
        cases this
      exact (upd_ne n1).trans ((upd_ne n2).trans (sm _ _ ec))
  · obtain ⟨qs, hDl, pr, sm⟩ := e
    rw [List.take_length] at pr
    obtain ⟨n, fr⟩ := unlock_free hD
    have un : ∀ {b : Addr} {o : HO}, b ≠ t → H' b = some o → (upd H' t (.dT kvs)) b = some o := fun n e => (upd_ne n).trans e
    have tt : ∀ {c : Addr} {xs : List V}, H' c = some (.tup xs) → c ≠ t := fun e z => by
      have := sm t _ upd_same
      rw [z, this] at e
      cases e
    refine ⟨sm _ _ upd_same, k D qs _ (unlock_same e sm) fr (un n hDl) (Paired.mapP pr fun u v z => ?_)⟩
    obtain ⟨q', z1, z2⟩ := z
    exact ⟨q', un (tt z1) z1, un (tt z2) z2⟩
end L2.RV
set_option Elab.async false
set_option linter.all false
set_option maxRecDepth 100000
set_option maxHeartbeats 4000000
set_option exponentiation.threshold 20000
/-! Vectors: dicts from columns to numbers. -/
namespace L2.RV
open PySem PySem.Spec PyProof.Rows
abbrev VL := List (Int × Int)
/-- the dict of a vector -/
def vD (v : VL) : List (L2.Key × V) := v.map fun z => (Sum.inl z.1, V.int z.2)
/-- what stands at a column, or 0 -/
def vat (v : VL) (c : Int) : Int := ((v.find? fun z => decide (z.1 = c)).map (·.2)).getD 0
/-- a vector is nowhere 0 where it has a column -/
structure GV (v : VL) : Prop where
  nd : (v.map (·.1)).Nodup
  nz : ∀ z ∈ v, z.2 ≠ 0
theorem vD_length (v : VL) : (vD v).length = v.length := List.length_map ..
theorem vat_nil (c : Int) : vat [] c = 0 := rfl
theorem vat_cons (z : Int × Int) (v : VL) (c : Int) : vat (z :: v) c = if z.1 = c then z.2 else vat v c := by
  unfold vat
  by_cases h : z.1 = c
  · rw [List.find?_cons_of_pos (by simp [h]), if_pos h]; rfl
  · rw [List.find?_cons_of_neg (by simpa using h), if_neg h]
theorem vat_out {v : VL} {c : Int} (h : c ∉ v.map (·.1)) : vat v c = 0 := by
  induction v with
  | nil => rfl
  | cons z r ih =>
    rw [List.map_cons, List.mem_cons, not_or] at h
    rw [vat_cons, if_neg (fun e => h.1 e.symm), ih h.2]
theorem vat_mem {v : VL} (nd : (v.map (·.1)).Nodup) : ∀ z ∈ v, vat v z.1 = z.2 := by
  induction v with
  | nil => exact fun _ h => absurd h List.not_mem_nil
  | cons y r ih =>
    rw [List.map_cons, List.nodup_cons] at nd
    intro z hz
    rw [vat_cons]
    rcases List.mem_cons.mp hz with rfl | hz
    · rw [if_pos rfl]
    · rw [if_neg (fun e => nd.1 (by rw [e]; exact List.mem_map.mpr ⟨z, hz, rfl⟩)), ih nd.2 z hz]
theorem GV.has {v : VL} (g : GV v) (c : Int) : c ∈ v.map (·.1) ↔ vat v c ≠ 0 := by
  constructor
  · intro h
    obtain ⟨z, hz, rfl⟩ := List.mem_map.mp h
    rw [vat_mem g.nd z hz]
    exact g.nz z hz
  · intro h
    by_cases m : c ∈ v.map (·.1)
    · exact m
    · exact absurd (vat_out m) h
theorem valV_vD (v : VL) (c : Int) : valV (vD v) (Sum.inl c) = (v.find? fun z => decide (z.1 = c)).map fun z => V.int z.2 := by
  induction v with
  | nil => rfl
  | cons z r ih =>
    show valV ((Sum.inl z.1, V.int z.2) :: vD r) _ = _
    by_cases h : z.1 = c
    · rw [valV_pos (by rw [h]), List.find?_cons_of_pos (by simp [h])]; rfl
    · rw [valV_neg (fun e => h (Sum.inl.inj e)), List.find?_cons_of_neg (by simpa using h), ih]
theorem valV_get (v : VL) (c : Int) : (valV (vD v) (Sum.inl c)).getD (V.int 0) = V.int (vat v c) := by
  rw [valV_vD]
  unfold vat
  cases v.find? fun z => decide (z.1 = c) <;> rfl
theorem valV_is {v : VL} {c : Int} (h : c ∈ v.map (·.1)) : valV (vD v) (Sum.inl c) = some (V.int (vat v c)) := by
  rw [valV_vD]
  unfold vat
  cases e : v.find? fun z => decide (z.1 = c) with
  | none =>
    obtain ⟨z, hz, rfl⟩ := List.mem_map.mp h
    have := List.find?_eq_none.mp e z hz
    simp at this
  | some z => rfl
theorem valV_no {v : VL} {c : Int} (h : c ∉ v.map (·.1)) : valV (vD v) (Sum.inl c) = none := by
  rw [valV_vD, List.find?_eq_none.mpr fun z hz e => h (List.mem_map.mpr ⟨z, hz, of_decide_eq_true e⟩)]
  rfl
theorem GV.isSome {v : VL} (g : GV v) (c : Int) : (valV (vD v) (Sum.inl c)).isSome = decide (vat v c ≠ 0) := by
  by_cases h : c ∈ v.map (·.1)
  · rw [valV_is h, decide_eq_true ((g.has c).mp h)]; rfl
  · rw [valV_no h, vat_out h]; rfl
/-- a number stored -/
def vput (v : VL) (c x : Int) : VL := if (v.any fun z => decide (z.1 = c)) = true then v.map (fun z => if z.1 = c then (z.1, x) else z) else v ++ [(c, x)]
def vdrop (v : VL) (c : Int) : VL := v.filter fun z => decide (z.1 ≠ c)
theorem vput_D (v : VL) (c x : Int) : putK (vD v) (Sum.inl c) (V.int x) = vD (vput v c x) := by
  unfold putK vput
  have e : ((vD v).any fun kv => decide (kv.1 = Sum.inl c)) = v.any fun z => decide (z.1 = c) := by
    unfold vD
    rw [List.any_map]
    congr 1
    funext z
    show decide ((Sum.inl z.1 : L2.Key) = Sum.inl c) = decide (z.1 = c)
    exact decide_eq_decide.mpr ⟨Sum.inl.inj, congrArg _⟩
  rw [e]
  split
  · unfold vD
    rw [List.map_map, List.map_map]
    refine List.map_congr_left fun z _ => ?_
    show (if (Sum.inl z.1 : L2.Key) = Sum.inl c then _ else _) = (Sum.inl (if z.1 = c then (z.1, x) else z).1, V.int (if z.1 = c then (z.1, x) else z).2)
    by_cases h : z.1 = c
    · rw [if_pos (congrArg _ h), if_pos h]
    · rw [if_neg (fun y => h (Sum.inl.inj y)), if_neg h]
  · unfold vD
    rw [List.map_append]
    rfl
theorem vdrop_D (v : VL) (c : Int) : dropK (vD v) (Sum.inl c) = vD (vdrop v c) := by
  unfold dropK vdrop vD
  rw [List.filter_map]
  congr 1
  refine List.filter_congr fun z _ => ?_
  show decide ((Sum.inl z.1 : L2.Key) ≠ Sum.inl c) = decide (z.1 ≠ c)
  exact decide_eq_decide.mpr ⟨fun h y => h (congrArg _ y), fun h y => h (Sum.inl.inj y)⟩
theorem vput_fst_in {v : VL} {c : Int} (x : Int) (h : c ∈ v.map (·.1)) : (vput v c x).map (·.1) = v.map (·.1) := by
  unfold vput
  rw [if_pos (by rw [List.any_eq_true]; obtain ⟨z, hz, rfl⟩ := List.mem_map.mp h; exact ⟨z, hz, by simp⟩), List.map_map]
  refine List.map_congr_left fun z _ => ?_
  show (if z.1 = c then (z.1, x) else z).1 = z.1
  split <;> rfl
theorem vput_out {v : VL} {c : Int} (x : Int) (h : c ∉ v.map (·.1)) : vput v c x = v ++ [(c, x)] := by
  unfold vput
  rw [if_neg]
  intro e
  obtain ⟨z, hz, q⟩ := List.any_eq_true.mp e
  exact h (List.mem_map.mpr ⟨z, hz, of_decide_eq_true q⟩)
theorem vput_nd {v : VL} (nd : (v.map (·.1)).Nodup) (c x : Int) : ((vput v c x).map (·.1)).Nodup := by
  by_cases h : c ∈ v.map (·.1)
  · rw [vput_fst_in x h]; exact nd
  · rw [vput_out x h, List.map_append, List.map_cons, List.map_nil]
    refine List.nodup_append.mpr ⟨nd, by simp, fun a ha b hb e => ?_⟩
    rw [List.mem_singleton.mp hb] at e
    exact h (by rw [show c = a from e.symm]; exact ha)
theorem vat_app (v w : VL) (c : Int) : vat (v ++ w) c = if c ∈ v.map (·.1) then vat v c else vat w c := by
  induction v with
  | nil => simp
  | cons z r ih =>
    rw [List.cons_append, vat_cons, vat_cons, ih, List.map_cons]
    by_cases h : z.1 = c
    · rw [if_pos h, if_pos h, if_pos (by rw [h]; exact List.mem_cons_self)]
    · rw [if_neg h, if_neg h]
      by_cases m : c ∈ r.map (·.1)
      · rw [if_pos m, if_pos (List.mem_cons_of_mem _ m)]
      · rw [if_neg m, if_neg (fun y => (List.mem_cons.mp y).elim (fun e => h e.symm) m)]
theorem vat_put (v : VL) (c x b : Int) : vat (vput v c x) b = if b = c then x else vat v b := by
  have z := valV_put (vD v) (Sum.inl c : L2.Key) (Sum.inl b) (V.int x)
  rw [vput_D] at z
  have y := valV_get (vput v c x) b
  rw [z] at y
  by_cases h : b = c
  · rw [if_pos (congrArg _ h)] at y
    rw [if_pos h]
    have : V.int x = V.int (vat (vput v c x) b) := y
    injection this with e
    exact e.symm
  · rw [if_neg (fun e => h (Sum.inl.inj e)), valV_get] at y
    rw [if_neg h]
    injection y with e
    exact e.symm
theorem vat_drop (v : VL) (c b : Int) : vat (vdrop v c) b = if b = c then 0 else vat v b := by
  unfold vdrop
  induction v with
  | nil => simp [vat_nil]
  | cons z r ih =>
    rw [List.filter_cons]
    by_cases h : z.1 = c
    · rw [if_neg (by simpa using h), ih, vat_cons]
      by_cases e : b = c
      · rw [if_pos e, if_pos e]
      · rw [if_neg e, if_neg e, if_neg (fun y => e (by rw [← y, h]))]
    · rw [if_pos (by simpa using h), vat_cons, ih, vat_cons]
      by_cases e : z.1 = b
      · rw [if_pos e, if_pos e, if_neg (fun y => h (by rw [e, y]))]
      · rw [if_neg e, if_neg e]
theorem vdrop_GV {v : VL} (g : GV v) (c : Int) : GV (vdrop v c) := ⟨g.nd.sublist (List.filter_sublist.map _), fun z hz => g.nz z (List.mem_filter.mp hz).1⟩
theorem vput_GV {v : VL} (g : GV v) (c : Int) {x : Int} (h : x ≠ 0) : GV (vput v c x) := by
  refine ⟨vput_nd g.nd c x, fun z hz => ?_⟩
  have e := vat_mem (vput_nd g.nd c x) z hz
  rw [vat_put] at e
  rw [← e]
  by_cases h2 : z.1 = c
  · rw [if_pos h2]; exact h
  · rw [if_neg h2] at e ⊢
    rw [e]
    intro z0
    rw [z0] at e
    have m : z.1 ∈ (vput v c x).map (·.1) := List.mem_map.mpr ⟨z, hz, rfl⟩
    by_cases m2 : z.1 ∈ v.map (·.1)
    · exact (g.has z.1).mp m2 e
    · by_cases hc : c ∈ v.map (·.1)
      · rw [vput_fst_in x hc] at m; exact m2 m
      · rw [vput_out x hc, List.map_append, List.mem_append] at m
        rcases m with m | m
        · exact m2 m
        · rw [List.map_cons, List.map_nil, List.mem_singleton] at m; exact h2 m
/-- numbers of at most B bits -/
def VB (B : Nat) (v : VL) : Prop := ∀ c, (vat v c).natAbs < 2 ^ B
theorem VB.mono {A B : Nat} {v : VL} (h : VB A v) (le : A ≤ B) : VB B v := fun c => Nat.lt_of_lt_of_le (h c) (Nat.pow_le_pow_right (by decide) le)
/-- the columns stand below n, none below 0 -/
def VC (n : Nat) (v : VL) : Prop := ∀ z ∈ v, 0 ≤ z.1 ∧ z.1 < n
/-- the numbers of a vector, one by one -/
def gcdL (v : VL) : Nat := v.foldl (fun g z => Nat.gcd g z.2.natAbs) 0
end L2.RV
set_option Elab.async false
set_option linter.all false
set_option maxRecDepth 100000
set_option maxHeartbeats 4000000
set_option exponentiation.threshold 20000
/-! Comprehensions over vectors. -/
namespace L2.RV
open PySem PySem.Spec PyProof.Rows
/-- a dict comprehension over what is walked; its keys ints or texts -/
theorem dcK_it {J : It} {n : Nat} {G : Hp → Prop} {Y : Nat → Hp → V → Hp → Prop} (w : Walk J n G Y) {g : TG} {tt : TT} {tk tv : TE} {vs : List Nat} {σ : L2.St} {H1 : Hp} {D : Addr} {Qd : Hp → Prop} (Pv : Nat → Hp → Prop) (h0 : Pv 0 (upd H1 D (.dK []))) (hG : ∀ i H, i ≤ n → Pv i H → G H)
    (hs : ∀ i x H H', i < n → Pv i H → Y i H x H' → g x (wipe σ vs) H' fun σ2 H2 => wipe σ2 vs = wipe σ vs ∧ tt σ2 H2 fun b H3 =>
      if b = true then tk σ2 H3 fun y H4 => tv σ2 H4 fun z H5 => ∃ kvs k, y = kV k ∧ H5 D = some (.dK kvs) ∧ kvs.length < sizeLine ∧ Pv (i + 1) (upd H5 D (.dK (putK kvs k z))) else Pv (i + 1) H3) (hd : ∀ H, Pv n H → Qd H) :
    ∃ W : Nat → Nat → Hp → Prop, (∃ m, W 0 m (upd H1 D (.dK []))) ∧ ∀ i m H, W i m H →
      (J.stop i H ∧ Qd H) ∨ (J.go i H ∧ ∃ N : Hp → Prop, (∀ H', N H' → ∃ m', m' < m ∧ W (i + 1) m' H') ∧ ∀ x H', J.yld i H x H' → g x (wipe σ vs) H' fun σ2 H2 => wipe σ2 vs = wipe σ vs ∧ tt σ2 H2 fun b H3 =>
        if b = true then tk σ2 H3 fun y H4 => tv σ2 H4 fun z H5 => ∃ kvs k, y = kV k ∧ H5 D = some (.dK kvs) ∧ kvs.length < sizeLine ∧ N (upd H5 D (.dK (putK kvs k z))) else N H3) := by
  refine ⟨fun i m H => m + i = n ∧ Pv i H, ⟨n, by omega, h0⟩, fun i m H q => ?_⟩
  obtain ⟨em, p⟩ := q
  have gg := hG i H (by omega) p
  by_cases lt : i < n
  · refine .inr ⟨w.goes i H lt gg, Pv (i + 1), fun H' p' => ⟨m - 1, by omega, by omega, p'⟩, fun x H' y => hs i x H H' lt p (w.yields i H x H' lt gg y)⟩
  · obtain rfl : i = n := by omega
    exact .inl ⟨w.stops H gg, hd H p⟩
/-- the chosen columns, each with a new number -/
def vsel (p : Int → Int → Bool) (f : Int → Int → Int) (v : VL) : VL := (v.filter fun z => p z.1 z.2).map fun z => (z.1, f z.1 z.2)
theorem vsel_sub (p : Int → Int → Bool) (f : Int → Int → Int) (v : VL) : ((vsel p f v).map (·.1)).Sublist (v.map (·.1)) := by
  unfold vsel
  rw [List.map_map]
  exact (List.filter_sublist (l := v)).map (·.1)
theorem vsel_snoc {p : Int → Int → Bool} {f : Int → Int → Int} {v : VL} {i : Nat} {z : Int × Int} (h : v[i]? = some z) (nd : (v.map (·.1)).Nodup) :
    vD (vsel p f (v.take (i + 1))) = if p z.1 z.2 = true then putK (vD (vsel p f (v.take i))) (Sum.inl z.1) (V.int (f z.1 z.2)) else vD (vsel p f (v.take i)) := by
  rw [take_snoc h]
  have e : vsel p f (v.take i ++ [z]) = vsel p f (v.take i) ++ if p z.1 z.2 = true then [(z.1, f z.1 z.2)] else [] := by
    unfold vsel
    rw [List.filter_append, List.map_append]
    congr 1
    cases c : p z.1 z.2 <;> simp [c]
  rw [e]
  split
  · have out : z.1 ∉ (vsel p f (v.take i)).map (·.1) := fun m => by
      have m2 := (vsel_sub p f (v.take i)).subset m
      obtain ⟨lt, ez⟩ := List.getElem?_eq_some_iff.mp h
      rw [List.map_take] at m2
      obtain ⟨j, hj, ej⟩ := List.mem_iff_getElem.mp m2
      rw [List.length_take] at hj
      rw [List.getElem_take] at ej
      have lj : j < v.length := by rw [List.length_map] at hj; omega
      have nj : j < i := by rw [List.length_map] at hj; omega
      have e2 : (v.map (·.1))[i]'(by rw [List.length_map]; exact lt) = z.1 := by rw [List.getElem_map, ez]
      exact List.pairwise_iff_getElem.mp nd j i (by rw [List.length_map]; exact lj) (by rw [List.length_map]; exact lt) nj (ej.trans e2.symm)
    rw [vput_D, vput_out _ out]
  · rw [List.append_nil]
/-- {f(c): g(c, n) for c, n in v.items() if p(c, n)}, v a vector -/
theorem dc_vec {td tv : TE} {tst : TT} {i j : Nat} {σ : L2.St} {H : Hp} {Q : VK} {t : Addr} {v : VL} (p : Int → Int → Bool) (f : Int → Int → Int) {K : PySem.W.Frag} (e : H t = some (.dK (vD v))) (nd : (v.map (·.1)).Nodup) (small : v.length ≤ 1000)
    (hi : ∀ od (R : V → Hp → Prop), R (.ref t) (upd H t (.frz od (.dK (vD v)))) → td σ (upd H t (.frz od (.dK (vD v)))) R) {vs : List Nat}
    (wp : ∀ x y : V, wipe (((wipe σ vs).set i (some x)).set j (some y)) vs = wipe σ vs) (gi : ∀ x y : V, (((wipe σ vs).set i (some x)).set j (some y))[i]? = some (some x))
    (ht : ∀ od (c n : Int), (c, n) ∈ v → ∀ (H1 : Hp) (Q' : Bool → Hp → Prop), Same (upd H t (.frz od (.dK (vD v)))) H1 → Q' (p c n) H1 → tst (((wipe σ vs).set i (some (.int c))).set j (some (.int n))) H1 Q')
    (hv : ∀ od (c n : Int), (c, n) ∈ v → ∀ (H1 : Hp) (Q' : VK), Same (upd H t (.frz od (.dK (vD v)))) H1 → Q' (.int (f c n)) H1 → tv (((wipe σ vs).set i (some (.int c))).set j (some (.int n))) H1 Q')
    (k : ∀ D H', Same H H' → H D = none → H' D = some (.dK (vD (vsel p f v))) → Q (.ref D) H') :
    tLockE (tDc (iItems td) (gTup K 2 (gCons (gName i) (gCons (gName j) gNil))) tst (tVar i) tv vs) σ H Q := by
  refine ⟨t, .dK (vD v), e, True.intro, fun od => ?_⟩
  refine hi od _ ⟨t, od, vD v, rfl, upd_same, fun D hD => ?_⟩
  have lv : (vD v).length = v.length := vD_length v
  refine dcK_it walk_items (fun m H' => H' D = some (.dK (vD (vsel p f (v.take m)))) ∧ Same (upd H t (.frz od (.dK (vD v)))) H') ⟨upd_same, same_new hD⟩ (fun m H' _ z => z.2 _ _ upd_same) (fun m x H1 H2 lt z y => ?_) (fun H' z => ?_)
  · obtain ⟨hDl, sm⟩ := z
    obtain ⟨T, cv, nv, rfl, nT, rfl, hc, hn⟩ := y
    rw [lv] at lt
    have hz : v[m]? = some v[m] := List.getElem?_eq_getElem lt
    have hk : (vD v)[m]? = some (Sum.inl v[m].1, V.int v[m].2) := by unfold vD; rw [List.getElem?_map, hz]; rfl
    dsimp only at hc hn
    rw [hk] at hc hn
    cases hc
    cases hn
    have mz : (v[m].1, v[m].2) ∈ v := List.getElem_mem _
    have nD : D ≠ T := fun q => by rw [q, nT] at hDl; cases hDl
    have sm2 := sm.trans (same_new (o := .tup [kV (Sum.inl v[m].1), .int v[m].2]) nT)
    refine ⟨T, _, rfl, SqT.of upd_same, rfl, _, _, rfl, _, _, rfl, rfl, wp _ _, ?_⟩
    refine ht od _ _ mz _ _ sm2 ?_
    have st := vsel_snoc (p := p) (f := f) hz nd
    cases c : p v[m].1 v[m].2 with
    | false =>
      rw [if_neg (by decide)]
      rw [c, if_neg (by decide)] at st
      refine ⟨(upd_ne nD).trans ?_, sm2⟩
      rw [st]
      exact hDl
    | true =>
      rw [if_pos rfl]
      rw [c, if_pos rfl] at st
      refine ⟨.int v[m].1, gi _ _, hv od _ _ mz _ _ sm2 ⟨_, Sum.inl v[m].1, rfl, (upd_ne nD).trans hDl, ?_, ?_, fun c' o ec => ?_⟩⟩
      · have z1 := (vsel_sub p f (v.take m)).length_le
        rw [List.length_map, List.length_map, List.length_take] at z1
        rw [vD_length, sizeLine_eq]
        omega
      · rw [upd_same, st]
      · have n1 : c' ≠ D := ne_of_none ec hD
        exact (upd_ne n1).trans (sm2 _ _ ec)
  · obtain ⟨hDl, sm⟩ := z
    rw [lv, List.take_length] at hDl
    obtain ⟨n, fr⟩ := unlock_free hD
    have un : ∀ {b : Addr} {o : HO}, b ≠ t → H' b = some o → (upd H' t (.dK (vD v))) b = some o := fun n e => (upd_ne n).trans e
    exact ⟨sm _ _ upd_same, k D _ (unlock_same e sm) fr (un n hDl)⟩
end L2.RV
set_option Elab.async false
set_option linter.all false
set_option maxRecDepth 100000
set_option maxHeartbeats 4000000
/-! Comprehensions over the keys of a dict by texts and numbers; a dict made by texts. -/
namespace L2.RV
open PySem PySem.Spec PyProof.Rows
/-- [f(k) for k in d if p(k)] -/
theorem lc_keysK {td te : TE} {tt : TT} {j : Nat} {σ : L2.St} {H : Hp} {Q : VK} {t : Addr} {kvs : List (L2.Key × V)} (p : L2.Key → Bool) (f : L2.Key → V) (e : H t = some (.dK kvs)) (small : kvs.length ≤ 1000) (hj : j < σ.length)
    (hi : ∀ od (R : V → Hp → Prop), R (.ref t) (upd H t (.frz od (.dK kvs))) → td σ (upd H t (.frz od (.dK kvs))) R)
    (ht : ∀ (od : Obj) (key : L2.Key) (v : V), (key, v) ∈ kvs → ∀ (H1 : Hp) (Q' : Bool → Hp → Prop), Same (upd H t (.frz od (.dK kvs))) H1 → Q' (p key) H1 → tt ((wipe σ [j]).set j (some (kV key))) H1 Q')
    (hv : ∀ (od : Obj) (key : L2.Key) (v : V), (key, v) ∈ kvs → p key = true → ∀ (H1 : Hp) (Q' : VK), Same (upd H t (.frz od (.dK kvs))) H1 → Q' (f key) H1 → te ((wipe σ [j]).set j (some (kV key))) H1 Q')
    (k : ∀ D H', Same H H' → H D = none → H' D = some (.lst (((kvs.map (·.1)).filter p).map f)) → Q (.ref D) H') {vs : List Nat} (evs : vs = [j] := by rfl) : tLockE (tLc (iKeys td) (gName j) tt te vs) σ H Q := by
  subst evs
  refine ⟨t, .dK kvs, e, True.intro, fun od => ?_⟩
  refine hi od _ ⟨t, od, rfl, .inl ⟨kvs, upd_same, fun D hD => ?_⟩⟩
  refine lc_it walk_keys (fun i H' => H' D = some (.lst ((((kvs.take i).map (·.1)).filter p).map f)) ∧ Same (upd H t (.frz od (.dK kvs))) H') ⟨upd_same, same_new hD⟩ (fun i H' _ e => e.2 _ _ upd_same) (fun i x H2 H3 lt e y => ?_) (fun H' e => ?_)
  · obtain ⟨hDl, sm⟩ := e
    obtain ⟨rfl, key, v, hkv, rfl⟩ := y
    have mk : (key, v) ∈ kvs := List.mem_of_getElem? hkv
    have et : (kvs.take (i + 1)).map (·.1) = (kvs.take i).map (·.1) ++ [key] := by rw [take_snoc hkv, List.map_append]; rfl
    refine ⟨wipe_set1 σ j _, ht od key v mk _ _ sm ?_⟩
    cases c : p key with
    | false =>
      rw [if_neg (by decide), et, List.filter_append, List.filter_cons_of_neg (by rw [c]; decide), List.filter_nil, List.append_nil]
      exact ⟨hDl, sm⟩
    | true =>
      rw [if_pos rfl]
      refine hv od key v mk c _ _ sm ⟨_, hDl, ?_, ?_, fun b o eb => ?_⟩
      · have z := List.length_filter_le p ((kvs.take i).map (·.1))
        rw [List.length_map, List.length_take] at z
        rw [List.length_map, sizeLine_eq]
        omega
      · rw [upd_same, et, List.filter_append, List.filter_cons_of_pos c, List.filter_nil, List.map_append]
        rfl
      · exact (upd_ne (ne_of_none eb hD)).trans (sm _ _ eb)
  · obtain ⟨hDl, sm⟩ := e
    rw [List.take_length] at hDl
    obtain ⟨n, fr⟩ := unlock_free hD
    exact ⟨sm _ _ upd_same, k D _ (unlock_same e sm) fr ((upd_ne n).trans hDl)⟩
/-- {y: f(y) for y in e}, e a list of different texts -/
theorem dc_texts {K : PySem.W.Frag} {ti tv : TE} {j : Nat} {σ : L2.St} {H : Hp} {Q : VK} (C : Addr → List Str → Hp → Prop) (f : Str → V) (hj : j < σ.length) (hi : ∀ R : V → Hp → Prop, (∀ a ys H1, C a ys H1 → R (.ref a) H1) → ti σ H R)
    (hC : ∀ a ys H1, C a ys H1 → Sq K H1 a (ys.map V.str) ∧ ys.length ≤ 1000 ∧ ys.Nodup)
    (hv : ∀ a ys H1, C a ys H1 → ∀ y ∈ ys, ∀ (H2 : Hp) (Q' : VK), Same H1 H2 → Q' (f y) H2 → tv ((wipe σ [j]).set j (some (.str y))) H2 Q')
    (k : ∀ a ys H1, C a ys H1 → ∀ D H', Same H1 H' → H1 D = none → H' D = some (.dK (ys.map fun y => (Sum.inr y, f y))) → Q (.ref D) H') {vs : List Nat} (evs : vs = [j] := by rfl) : tDc (iSq K ti) (gName j) tYes (tVar j) tv vs σ H Q := by
  subst evs
  refine hi _ fun a ys H1 c => ?_
  obtain ⟨hq, small, nd⟩ := hC a ys H1 c
  refine ⟨a, ys.map V.str, rfl, hq, fun J wk D hD => ?_⟩
  refine dcK_it wk (fun i H' => H' D = some (.dK ((ys.take i).map fun y => (Sum.inr y, f y))) ∧ Same H1 H') ⟨upd_same, same_new hD⟩ (fun i H' _ e => .of_same e.2) (fun i x H2 H3 lt e y => ?_) (fun H' e => ?_)
  · obtain ⟨hDl, sm⟩ := e
    obtain ⟨rfl, hz⟩ := y
    rw [List.length_map] at lt
    have he : ys[i]? = some ys[i] := List.getElem?_eq_getElem lt
    have hm : ys[i] ∈ ys := List.getElem_mem lt
    rw [List.getElem?_map, he] at hz
    cases hz
    have lw : j < (wipe σ [j]).length := by rw [wipe_length]; exact hj
    have et := take_snoc he
    have nw : valV ((ys.take i).map fun y => ((Sum.inr y : L2.Key), f y)) (Sum.inr ys[i]) = none := by
      have n1 : (ys.take (i + 1)).Nodup := nd.sublist (List.take_sublist _ _)
      rw [et] at n1
      have n2 := (List.nodup_append.mp n1).2.2
      unfold valV
      rw [List.find?_eq_none.mpr]
      · rfl
      · intro kv hk
        obtain ⟨y, hy, rfl⟩ := List.mem_map.mp hk
        intro q
        exact n2 y hy _ (List.mem_singleton.mpr rfl) (Sum.inr.inj (of_decide_eq_true q))
    refine ⟨wipe_set1 σ j _, ?_⟩
    with_reducible refine yesU ?_
    refine ⟨_, List.getElem?_set_self lw, hv a ys H1 c _ hm _ _ sm ⟨_, Sum.inr ys[i], rfl, hDl, ?_, ?_, fun b o eb => ?_⟩⟩
    · rw [List.length_map, List.length_take, sizeLine_eq]
      omega
    · rw [upd_same, putK_new _ nw, et, List.map_append]
      rfl
    · exact (upd_ne (ne_of_none eb hD)).trans (sm _ _ eb)
  · obtain ⟨hDl, sm⟩ := e
    rw [List.length_map, List.take_length] at hDl
    exact k a ys H1 c D _ sm hD hDl
end L2.RV
set_option Elab.async false
set_option linter.all false
set_option maxRecDepth 100000
set_option maxHeartbeats 4000000
/-! A book made. -/
namespace L2.K20
open PySem PySem.Spec PyProof.Rows L2.RV
theorem gnU {i : Nat} {v : V} {σ : L2.St} {H : Hp} {Q : L2.St → Hp → Prop} (h : Q (σ.set i (some v)) H) : gName i v σ H Q := h
/-- a book's entries as they are handed: pairs of good names and questions of its shape -/
structure EntAt (K : PySem.W.Frag) (H : Hp) (ks : List Str) (d : Nat) (b : Addr) (z : Str × Addr) : Prop where
  tup : H b = some (.tup [.str z.1, .ref z.2])
  len : z.1.length ≤ sizeLine
  good : isName z.1 = true
  que : ∃ s ls e, OfShape K H "Question" z.2 s ∧ ShapeAt K H s ls e ∧ shapeEq ls e ks d = true
theorem EntAt.kx {K : PySem.W.Frag} {H H' : Hp} {ks : List Str} {d : Nat} {b : Addr} {z : Str × Addr} (e : EntAt K H ks d b z) (k : Kx0 H H') : EntAt K H' ks d b z := by
  obtain ⟨s, ls, f, ⟨dx, fs, o1, o2⟩, o3, o4⟩ := e.que
  exact ⟨k.kp.fix _ _ True.intro e.tup, e.len, e.good, s, ls, f, ⟨dx, fs, k.kp.fix _ _ True.intro o1, o2⟩, o3.kp k.kp, o4⟩
theorem bat_take {es : BL} (nd : (es.map (·.1)).Nodup) {i : Nat} {z : Str × Addr} (h : es[i]? = some z) : bat (es.take i) z.1 = none := by
  refine bat_none.mpr fun m => ?_
  obtain ⟨y, hy, e⟩ := List.mem_map.mp m
  obtain ⟨j, lt, g⟩ := List.mem_take_iff_getElem.mp hy
  have lt2 : i < es.length := (List.getElem?_eq_some_iff.mp h).1
  have gi : (es.map (·.1))[i]'(by rw [List.length_map]; exact lt2) = z.1 := by
    rw [List.getElem_map]
    rw [(List.getElem?_eq_some_iff.mp h).2]
  have ji : j < i := by omega
  have gj : (es.map (·.1))[j]'(by rw [List.length_map]; omega) = z.1 := by
    rw [List.getElem_map, g, e]
  exact absurd (gj.trans gi.symm) fun q => by
    have := (List.getElem_inj nd).mp q
    omega
theorem putK_bD {es : BL} {z : Str × Addr} (h : bat es z.1 = none) : putK (bD es) (Sum.inr z.1) (V.ref z.2) = bD (es ++ [z]) := by
  rw [putK_new _ (by rw [valV_bD, h]; rfl)]
  unfold bD
  rw [List.map_append]
  rfl
/-- Book.__init__, its pairs in a tuple -/
def spBookIn (K : PySem.W.Frag) : Sp := fun vs H Q _ => ∃ x dx s p ks d bs es, vs = [.ref x, .ref s, .ref p] ∧ H x = some (.ins (He.ga K "Book") dx []) ∧ H dx = some (.own x) ∧ ShapeAt K H s ks d ∧ H p = some (.tup (List.map V.ref bs)) ∧ bs.length = es.length ∧ (∀ (i : Nat) b z, bs[i]? = some b → es[i]? = some z → EntAt K H ks d b z) ∧ (es.map (·.1)).Nodup ∧ es.length ≤ 40 ∧
  ∀ H' t fs, Keep x H H' → H t = none → fs.Perm es → sortedS (fs.map (·.1)) = true → BookC K H' x dx s t fs → Q .non H'
/-- Book(shape, pair, ..) -/
def spBook (K : PySem.W.Frag) : Sp := fun vs H Q _ => ∃ x dx s ks d bs es, vs = .ref x :: .ref s :: List.map V.ref bs ∧ H x = some (.ins (He.ga K "Book") dx []) ∧ H dx = some (.own x) ∧ ShapeAt K H s ks d ∧ bs.length = es.length ∧ (∀ (i : Nat) b z, bs[i]? = some b → es[i]? = some z → EntAt K H ks d b z) ∧ (es.map (·.1)).Nodup ∧ es.length ≤ 40 ∧
  ∀ H' t fs, Keep x H H' → H t = none → fs.Perm es → sortedS (fs.map (·.1)) = true → BookC K H' x dx s t fs → Q .non H'
theorem keep_up' {H H1 : Hp} {t : Addr} {v : HO} (k : Keep t H H1) (ht : H t = none) : Keep t H (upd H1 t v) := fun b o n e => (upd_ne n).trans (k b o n e)
section
variable {P : Program} {w : World} {K : PySem.W.Frag} {mg : Str → Option Value} {base : Heap} {fd : FuncData}
theorem ok_book_init (T : Top w K mg) (D_check_shape_books : DefX (L2.CX P w) P w K mg base "check_shape_books" 3 ["shape"] (spIns K "Shape")) (D_check_pair : DefX (L2.CX P w) P w K mg base "check_pair" 4 ["shape", "pair", "ahead"] (spPair K)) {f : Addr} (F : FunD K "__init__" "Book.__init__" (defArgs s_Book_init) (defBody s_Book_init) (defScope s_Book_init) [] [] f fd) : FnR P w K mg base (L2.CX P w) 6 f (spBook K) := by
  refine FnR.imp (starOk2 (p1 := "self") (p2 := "shape") (pv := "pairs") (sp := spBookIn K) (k := 5) F sc_Book_init StX.cxUp (fun _ _ _ _ _ _ _ _ => rfl) (fun _ _ _ _ _ _ _ _ _ _ => rfl) (fun cdv A outer s H vs Q E hr h => ?_)) (fun vs H Q E h => ?_)
  · obtain ⟨x, dx, sa, p, ks, d, bs, es, rfl, hx, hdx, s0, hp, lb, each, nd, few, k⟩ := h
    have hu := hr.units
    refine ⟨_, (pss_cons (ps_expr (pe_callX D_check_shape_books (hr.mono (by decide)) rfl pass_E0 (pa_cons (pv 1) pa_nil)))
      (pss_cons (ps_set (i := 3) sc_Book_init.nd rfl (by first | exact Or.inl rfl | exact Or.inr rfl) pe_dnewK)
      (pss_cons (ps_for (passes_of rfl) rfl (pi_sqK (K := K) rfl (pv 2)) (pg_name (i := 4) sc_Book_init.nd rfl (by first | exact Or.inl rfl | exact Or.inr rfl)) (pss_cons (ps_expr (pe_callX D_check_pair (hr.mono (by decide)) rfl pass_E0 (pa_cons (pv 1) (pa_cons (pv 4) (pa_cons (pv 3) pa_nil)))))
      (pss_one (ps_asg (pe_ix (ix_seqK (K := K) rfl) (pv 4) pe_int (fun _ _ => rfl)) (pg_sub (pv 3) (pe_ix (ix_seqK (K := K) rfl) (pv 4) pe_int (fun _ _ => rfl)) (set_dict (Nat.lt_of_le_of_lt (Nat.add_le_add_left (by decide) _) hu)))))))
      (pss_cons (ps_fld (pv 0) (pv 1) rfl)
      (pss_one (ps_fld (pv 0) (pe_dc (own := [("name", 5)]) (g := gName 5) (tt := tYes) (by rfl) sc_Book_init.nd (pi_sqK (K := K) rfl (pe_callB cr_sortedS rfl T.n_sorted (by decide +kernel) (pa_cons (pe_lock (pe_lc (own := [("name", 5)]) (g := gName 5) (tt := tYes) (by rfl) sc_Book_init.nd (pi_keys (pv 3)) (blkOk_by (own := [("name", 5)]) (N := ["self", "shape", "pairs", "questions", "pair", "name"]) (sc := defScope s_Book_init) (by decide +kernel)) (fun _ _ _ _ _ => by exact (pg_name (i := 5) sc_Book_init.nd rfl (by first | exact Or.inl rfl | exact Or.inr rfl))) (fun _ _ _ _ _ => by exact pts_nil) (fun _ _ _ _ _ => by exact (pe_callTy SkE.call_str_str rfl T.n_str (by decide +kernel) (pa_cons (pv 5) pa_nil))))) pa_nil))) (blkOk_by (own := [("name", 5)]) (N := ["self", "shape", "pairs", "questions", "pair", "name"]) (sc := defScope s_Book_init) (by decide +kernel)) (fun _ _ _ _ _ => by exact (pg_name (i := 5) sc_Book_init.nd rfl (by first | exact Or.inl rfl | exact Or.inr rfl))) (fun _ _ _ _ _ => by exact pts_nil) (fun _ _ _ _ _ => by exact (pv 5)) (fun _ _ _ _ _ => by exact (pe_dget (Nat.lt_of_le_of_lt (Nat.add_le_add_left (by decide) _) hu) (pv 3) (pv 5) (fun _ _ => rfl)))) rfl)))))), ?_⟩
    refine ⟨_, rfl, _, rfl, s0.ins, fun t ht => ?_⟩
    refine gnU ?_
    have nes : ∀ {b o}, H b = some o → b ≠ t := fun e z => by rw [z, ht] at e; cases e
    with_reducible refine seqU ?_
    refine ⟨_, rfl, p, _, rfl, .inl (SqT.of (same_new ht _ _ hp)), fun J wk => ?_⟩
    have lbs : (List.map V.ref bs).length = es.length := by rw [List.length_map, lb]
    refine for_it wk (fun i σ' H' => ∃ c4, σ' = [some (.ref x), some (.ref sa), some (.ref p), some (.ref t), c4, none] ∧ Keep t H H' ∧ H' t = some (.dK (bD (es.take i)))) ⟨none, rfl, .of (same_new ht), upd_same⟩ (fun i σ' H' _ q => ?_) (fun i x' σ' H1 H2 hi q y => ?_) (fun σ' H1 q => ?_)
    · obtain ⟨c4, rfl, kp, et⟩ := q
      refine .of_eq fun o e => kp _ _ (nes hp) ?_
      rw [upd_ne (nes hp)] at e
      exact e
    · obtain ⟨c4, rfl, kp, et⟩ := q
      obtain ⟨rfl, hz⟩ := y
      rw [lbs] at hi
      rw [List.getElem?_map] at hz
      obtain ⟨b, hb, rfl⟩ := Option.map_eq_some_iff.mp hz
      have he : es[i]? = some es[i] := List.getElem?_eq_getElem hi
      have ea := each i b _ hb he
      generalize es[i] = z at he ea
      have sm : Same H H2 := fun b o e => kp b o (nes e) e
      have ebt := sm _ _ ea.tup
      obtain ⟨sq, ls, e, oq, sh, eq⟩ := ea.que
      refine gnU ?_
      refine seqU ?_
      refine ⟨_, rfl, _, rfl, _, rfl, sa, b, t, z.1, z.2, sq, ks, d, ls, e, es.take i, rfl, ?_, ebt, et, ea.len, ea.good, ?_, ?_, eq, bat_take nd he, ?_⟩
      · exact s0.kp (.of sm)
      · obtain ⟨dz, fz, z1, z2⟩ := oq
        exact ⟨dz, fz, sm _ _ z1, z2⟩
      · exact sh.kp (.of sm)
      · refine ⟨_, rfl, .inr (.inl ⟨b, _, 1, V.ref z.2, rfl, rfl, SqT.of ebt, rfl, ?_⟩)⟩
        refine ⟨_, rfl, _, rfl, .inr (.inl ⟨b, _, 0, V.str z.1, rfl, rfl, SqT.of ebt, rfl, ?_⟩)⟩
        refine ⟨t, _, rfl, .inl ⟨_, Sum.inr z.1, et, rfl, ?_, rfl⟩, ?_⟩
        · rw [bD_length, List.length_take, sizeLine_eq]
          omega
        · refine ⟨_, rfl, keep_up' kp ht, ?_⟩
          rw [upd_same, putK_bD (bat_take nd he)]
          have e1 : es.take (i + 1) = es.take i ++ [z] := by rw [List.take_add_one, he]; rfl
          rw [e1]
    obtain ⟨c4, rfl, kp, et⟩ := q
    rw [lbs, List.take_length] at et
    have sm : Same H H1 := fun b o e => kp b o (nes e) e
    have ne : dx ≠ x := fun z => by rw [z, hx] at hdx; cases hdx
    with_reducible refine sfldsU ?_
    refine ⟨_, rfl, _, rfl, x, _, dx, _, rfl, sm _ _ hx, T.k_Book, T.a_Book_shape, by decide, ?_⟩
    with_reducible refine sfldU ?_
    generalize hK : upd H1 x (.ins (He.ga K "Book") dx (putF ("shape" : Str) (V.ref sa) [])) = H2
    have kp2 : Keep x H H2 := by rw [← hK]; exact keep_up (Keep.of sm) hx
    have et2 : H2 t = some (.dK (bD es)) := by rw [← hK]; exact (upd_ne (nes hx).symm).trans et
    have ex2 : H2 x = some (.ins (He.ga K "Book") dx [("shape", .ref sa)]) := by rw [← hK]; exact upd_same
    clear hK
    have keys : (bD es).map (·.1) = (es.map (·.1)).map Sum.inr := by unfold bD; rw [List.map_map, List.map_map]; rfl
    refine dc_texts (K := K) (fun a ys H3 => H3 a = some (.lst (ys.map V.str)) ∧ Same H2 H3 ∧ ys.Perm (es.map (·.1)) ∧ sortedS ys = true) (fun n => ((bat es n).map V.ref).getD .non) (by show 5 < 6; decide) (fun R r => ?_) (fun a ys H3 c => ?_) (fun a ys H3 c y hy H4 Q' sm4 q => ?_) (fun a ys H3 c D H4 sm4 nD eD => ?_)
    · refine cb1U ?_
      refine lc_keysK (fun _ => true) (fun kk => kV kk) et2 (by rw [bD_length]; omega) (by show 5 < 6; decide) (fun od R' r' => ⟨_, rfl, r'⟩) (fun od key v _ H3 Q' _ q => q) (fun od key v mk _ H3 Q' _ q => ?_) (fun D H3 sm3 nD eD => ?_)
      · obtain ⟨zz, _, ez⟩ := List.mem_map.mp mk
        cases ez
        exact ⟨_, rfl, zz.1, rfl, q⟩
      · rw [filt_all, keys, List.map_map] at eD
        have eD2 : H3 D = some (.lst ((es.map (·.1)).map V.str)) := eD
        refine ⟨D, es.map (·.1), rfl, .inl (.inl eD2), by rw [List.length_map]; omega, fun ys q pm so hq => ?_⟩
        exact r _ ys _ ⟨upd_same, sm3.trans (same_new hq), pm, so⟩
    · obtain ⟨c1, c2, c3, c4⟩ := c
      refine ⟨.inr (.inl (.inl c1)), ?_, ?_⟩
      · rw [c3.length_eq, List.length_map]; omega
      · exact c3.nodup_iff.mpr nd
    · obtain ⟨c1, c2, c3, c4⟩ := c
      have my : y ∈ es.map (·.1) := c3.mem_iff.mp hy
      cases ea : bat es y with
      | none => exact absurd my (bat_none.mp ea)
      | some a' =>
        rw [ea] at q
        refine ⟨_, rfl, _, rfl, t, _, rfl, .inl ⟨_, Sum.inr y, .inl (sm4 _ _ (c2 _ _ et2)), rfl, ?_⟩, q⟩
        rw [valV_bD, ea]
        rfl
    · obtain ⟨c1, c2, c3, c4⟩ := c
      have my : ∀ y ∈ ys, y ∈ es.map (·.1) := fun y hy => c3.mem_iff.mp hy
      refine ⟨_, rfl, x, _, dx, _, rfl, sm4 _ _ (c2 _ _ ex2), T.k_Book, T.a_Book__questions, (by show 1 < 1000; decide), ?_⟩
      have sm5 : Same H2 H4 := fun b o e => sm4 _ _ (c2 _ _ e)
      have Dx : D ≠ x := fun z => by rw [z, c2 _ _ ex2] at nD; cases nD
      have e1 : (ys.map fun y => (y, (bat es y).getD 0)).map (·.1) = ys := by
        rw [List.map_map]
        exact List.map_id' _
      refine k _ D (ys.map fun y => (y, (bat es y).getD 0)) ?_ ?_ ?_ (by rw [e1]; exact c4) ⟨upd_same, ?_, ?_⟩
      · exact keep_up (kp2.trans (Keep.of sm5)) hx
      · cases q : H D with
        | none => rfl
        | some o => rw [c2 _ _ (kp2 _ _ Dx q)] at nD; cases nD
      · have e2 : (es.map (·.1)).map (fun y => (y, (bat es y).getD 0)) = es := by
          rw [List.map_map]
          refine (List.map_congr_left fun z hz => ?_).trans (List.map_id _)
          show (z.1, (bat es z.1).getD 0) = z
          rw [bat_mem nd hz]
          rfl
        have e3 := c3.map (fun y => (y, (bat es y).getD 0))
        rw [e2] at e3
        exact e3
      · exact (upd_ne ne).trans (sm5 _ _ (kp2 _ _ ne hdx))
      · rw [upd_ne Dx, eD]
        unfold bD
        rw [List.map_map]
        refine congrArg (fun l => some (HO.dK l)) (List.map_congr_left fun y hy => ?_)
        show (Sum.inr y, ((bat es y).map V.ref).getD .non) = (Sum.inr y, V.ref ((bat es y).getD 0))
        cases ea : bat es y with
        | none => exact absurd (my y hy) (bat_none.mp ea)
        | some a' => rfl
  · obtain ⟨x, dx, s, ks, d, bs, es, rfl, hx, hdx, s0, lb, each, nd, few, k⟩ := h
    refine ⟨_, _, List.map V.ref bs, rfl, by rw [List.length_map, sizeLine_eq]; omega, fun p hp => ?_⟩
    have sn := same_new (o := .tup (List.map V.ref bs)) hp
    exact ⟨x, dx, s, p, ks, d, bs, es, rfl, sn _ _ hx, sn _ _ hdx, s0.kp (.of sn), upd_same, lb, fun i b z h1 h2 => (each i b z h1 h2).kx (.of sn), nd, few, fun H' t fs kp ht pm so bc => k H' t fs ((Keep.of sn).trans kp) (sn.free ht) pm so bc⟩
end
end L2.K20
set_option Elab.async false
set_option linter.all false
set_option maxRecDepth 100000
set_option maxHeartbeats 4000000
/-! Pairs of the keys of a dict by texts and numbers, and what stands there. -/
namespace L2.RV
open PySem PySem.Spec PyProof.Rows
theorem lockSetU {te : TE} {i : Nat} {D : Ends} {σ : L2.St} {H : Hp} (h : tLockE te σ H fun v H' => D.nx (σ.set i (some v)) H') : tLock (tAsg te (gName i)) D σ H := h
/-- the pair of a key and a value at q -/
def PairK (H : Hp) (q : Addr) (z : L2.Key × V) : Prop := H q = some (.tup [kV z.1, z.2])
theorem filterMap_snoc {α β : Type} {f : α → Option β} {xs : List α} {i : Nat} {x : α} (h : xs[i]? = some x) : (xs.take (i + 1)).filterMap f = (xs.take i).filterMap f ++ ([x].filterMap f) := by
  rw [take_snoc h, List.filterMap_append]
/-- [(k, f(k)) for k in d if p(k)] -/
theorem lc_pairsK {td te : TE} {tt : TT} {j : Nat} {σ : L2.St} {H : Hp} {Q : VK} {t : Addr} {kvs : List (L2.Key × V)} (p : L2.Key → Bool) (f : L2.Key → V → V) (e : H t = some (.dK kvs)) (small : kvs.length ≤ 1000) (hj : j < σ.length)
    (hi : ∀ od (R : V → Hp → Prop), R (.ref t) (upd H t (.frz od (.dK kvs))) → td σ (upd H t (.frz od (.dK kvs))) R)
    (ht : ∀ (od : Obj) (key : L2.Key) (v : V), (key, v) ∈ kvs → ∀ (H1 : Hp) (Q' : Bool → Hp → Prop), Same (upd H t (.frz od (.dK kvs))) H1 → Q' (p key) H1 → tt ((wipe σ [j]).set j (some (kV key))) H1 Q')
    (hv : ∀ (od : Obj) (key : L2.Key) (v : V), (key, v) ∈ kvs → p key = true → ∀ (H1 : Hp) (Q' : VK), Same (upd H t (.frz od (.dK kvs))) H1 → Q' (f key v) H1 → te ((wipe σ [j]).set j (some (kV key))) H1 Q')
    (k : ∀ D qs H', Same H H' → H D = none → H' D = some (.lst (qs.map V.ref)) → Paired (PairK H') qs ((kvs.filter fun kv => p kv.1).map fun kv => (kv.1, f kv.1 kv.2)) → Q (.ref D) H') {vs : List Nat} (evs : vs = [j] := by rfl) : tLockE (tLc (iKeys td) (gName j) tt (tTup (tCons (tVar j) (tCons te tNil))) vs) σ H Q := by
  subst evs
  refine ⟨t, .dK kvs, e, True.intro, fun od => ?_⟩
  refine hi od _ ⟨t, od, rfl, .inl ⟨kvs, upd_same, fun D hD => ?_⟩⟩
  refine lc_it walk_keys (fun i H' => ∃ qs : List Addr, H' D = some (.lst (qs.map V.ref)) ∧ Paired (PairK H') qs (((kvs.take i).filter fun kv => p kv.1).map fun kv => (kv.1, f kv.1 kv.2)) ∧ Same (upd H t (.frz od (.dK kvs))) H') ⟨[], upd_same, .nil, same_new hD⟩ (fun i H' _ e => by obtain ⟨_, _, _, sm⟩ := e; exact sm _ _ upd_same) (fun i x H2 H3 lt e y => ?_) (fun H' e => ?_)
  · obtain ⟨qs, hDl, pr, sm⟩ := e
    obtain ⟨rfl, key, v, hkv, rfl⟩ := y
    have mk : (key, v) ∈ kvs := List.mem_of_getElem? hkv
    have lq := pr.length
    have lw : j < (wipe σ [j]).length := by rw [wipe_length]; exact hj
    have et : kvs.take (i + 1) = kvs.take i ++ [(key, v)] := take_snoc hkv
    refine ⟨wipe_set1 σ j _, ht od key v mk _ _ sm ?_⟩
    cases c : p key with
    | false =>
      rw [if_neg (by decide), et, List.filter_append, List.filter_cons_of_neg (by show ¬ (p key = true); rw [c]; decide), List.filter_nil, List.append_nil]
      exact ⟨qs, hDl, pr, sm⟩
    | true =>
      rw [if_pos rfl]
      refine ⟨kV key, List.getElem?_set_self lw, hv od key v mk c _ _ sm ⟨by show 2 ≤ sizeLine; decide, fun q nq => ?_⟩⟩
      have nD : D ≠ q := fun z => by rw [z, nq] at hDl; cases hDl
      refine ⟨_, (upd_ne nD).trans hDl, ?_, qs ++ [q], ?_, ?_, fun c' o ec => ?_⟩
      · have z := List.length_filter_le (fun kv : L2.Key × V => p kv.1) (kvs.take i)
        rw [List.length_map] at lq
        rw [List.length_take] at z
        rw [List.length_map, lq, sizeLine_eq]
        omega
      · rw [upd_same, List.map_append]
        rfl
      · rw [et, List.filter_append, List.filter_cons_of_pos (p := fun kv : L2.Key × V => p kv.1) (a := (key, v)) c, List.filter_nil, List.map_append, List.map_cons, List.map_nil]
        have up : ∀ {c : Addr} {xs : List V}, H3 c = some (.tup xs) → (upd (upd H3 q (.tup [kV key, f key v])) D (.lst (qs.map V.ref ++ [V.ref q]))) c = some (.tup xs) := fun {c xs} e => by
          have n1 : c ≠ D := fun z => by rw [z, hDl] at e; cases e
          have n2 : c ≠ q := fun z => by rw [z, nq] at e; cases e
          exact (upd_ne n1).trans ((upd_ne n2).trans e)
        exact Paired.snoc (Paired.mapP pr fun u v z => up z) ((upd_ne (Ne.symm nD)).trans upd_same)
      · have n1 : c' ≠ D := ne_of_none ec hD
        have n2 : c' ≠ q := fun z => by
          have := sm _ _ ec
          rw [z, nq] at this
          cases this
        exact (upd_ne n1).trans ((upd_ne n2).trans (sm _ _ ec))
  · obtain ⟨qs, hDl, pr, sm⟩ := e
    rw [List.take_length] at pr
    obtain ⟨n, fr⟩ := unlock_free hD
    refine ⟨sm _ _ upd_same, k D qs _ (unlock_same e sm) fr ((upd_ne n).trans hDl) (Paired.mapP pr fun u v z => ?_)⟩
    have nt : u ≠ t := fun q => by
      have := sm _ _ (upd_same (a := t))
      rw [← q] at this
      unfold PairK at z
      rw [this] at z
      cases z
    exact (upd_ne nt).trans z
end L2.RV
set_option Elab.async false
set_option linter.all false
set_option maxRecDepth 100000
set_option maxHeartbeats 4000000
/-! A book without one of its questions. -/
namespace L2.K20
open PySem PySem.Spec PyProof.Rows L2.RV
/-- a book with what its questions are of -/
structure BookOk (K : PySem.W.Frag) (H : Hp) (ks : List Str) (d : Nat) (es : BL) : Prop where
  nd : (es.map (·.1)).Nodup
  few : es.length ≤ 39
  each : ∀ z ∈ es, z.1.length ≤ sizeLine ∧ isName z.1 = true ∧ ∃ s ls e, OfShape K H "Question" z.2 s ∧ ShapeAt K H s ls e ∧ shapeEq ls e ks d = true
/-- book.without(name) -/
def spWithout (K : PySem.W.Frag) : Sp := fun vs H Q _ => ∃ x dx s t ks d es n, vs = [.ref x, .str n] ∧ BookC K H x dx s t es ∧ ShapeAt K H s ks d ∧ BookOk K H ks d es ∧ (bat es n).isSome = true ∧
  ∀ H' y dy t' fs, Same H H' → H t' = none → fs.Perm (es.filter fun z => !decide (z.1 = n)) → sortedS (fs.map (·.1)) = true → BookC K H' y dy s t' fs → Q (.ref y) H'
section
variable {P : Program} {w : World} {K : PySem.W.Frag} {mg : Str → Option Value} {base : Heap} {fd : FuncData}
theorem paired_at {α β : Type} {R : α → β → Prop} : ∀ {xs : List α} {ys : List β}, Paired R xs ys → ∀ {i : Nat} {x : α} {y : β}, xs[i]? = some x → ys[i]? = some y → R x y
  | _, _, .nil, _, _, _, h, _ => by cases h
  | _, _, .cons h r, 0, _, _, hx, hy => by cases hx; cases hy; exact h
  | _, _, .cons h r, i + 1, _, _, hx, hy => paired_at r (i := i) hx hy
theorem ok_Book_without (T : Top w K mg) (S_Book_contains : MethS CX0 P w K mg base (He.ga K "Book") "__contains__" 1 ["self", "x"] (spBookHas K)) (S_Book_getitem : MethS (L2.CX P w) P w K mg base (He.ga K "Book") "__getitem__" 4 ["self", "at"] (spBookAt K)) (R_NoName : RzX P w K mg base "NoName" (ca K 16) ["name"]) (C_Book : MakeR (L2.CX P w) P w K mg base "Book" (He.ga K "Book") 6 (spBook K)) {f : Addr} (F : FunD K "without" "Book.without" (defArgs s_Book_without) (defBody s_Book_without) (defScope s_Book_without) [] [] f fd) : FnOk P w K mg base (L2.CX P w) 8 f fd ["self", "name"] (spWithout K) := by
  refine F.ok sc_Book_without (fun vs H Q E h => ?_) (fun cdv A outer s H vs Q E hr h => ?_)
  · obtain ⟨x, dx, s, t, ks, d, es, n, rfl, _⟩ := h
    rfl
  · obtain ⟨x, dx, sa, t, ks, d, es, n, rfl, c, s0, ok, ha, k⟩ := h
    have hu := hr.units
    refine ⟨_, (pss_cons (ps_if (pt_cmpR (op_notInO S_Book_contains (hr.mono (by decide)) pass_CX0) (pv 1) (pv 0) rfl) (pss_one (ps_rz R_NoName rfl (hr.mono (by decide)) (takes_of rfl rfl rfl rfl) rfl (pa_cons (pv 1) pa_nil))) pss_nil)
      (pss_cons (ps_lock (ps_setLc (i := 2) (own := [("other", 3)]) (g := gName 3) (by rfl) sc_Book_without.nd rfl rfl (sw_true rfl rfl rfl (by decide +kernel)) (pi_keys (pe_fldK (K := K) rfl (pv 0) rfl)) (blkOk_by (own := [("other", 3)]) (N := ["self", "name", "pairs", "other"]) (sc := defScope s_Book_without) (by decide +kernel)) (fun _ _ _ _ _ => by exact (pg_name (i := 3) sc_Book_without.nd rfl (by first | exact Or.inl rfl | exact Or.inr rfl))) (fun _ _ _ _ _ => by exact (pts_one (pt_cmpR (op_diffK (K := K) rfl hu) (pv 3) (pv 1) (nomark _)))) (fun _ _ _ _ _ => by exact (pe_tup (pa_cons (pv 3) (pa_cons (pe_ixO S_Book_getitem (hr.mono (by decide)) pass_E0 (pv 0) (pv 3)) pa_nil))))))
      (pss_one (ps_ret (pe_mkRS C_Book (hr.mono (by decide)) rfl pass_E0 (pa_cons (pe_fldK (K := K) rfl (pv 0) rfl) (StX.pa_star (pv 2) pa_nil))))))), ?_⟩
    refine ⟨_, rfl, _, rfl, x, dx, _, rfl, c.obj, x, dx, sa, t, es, _, rfl, c.rd, .inl ⟨n, rfl, _, rfl, _, rfl, ?_⟩⟩
    rw [ha]
    refine ite2 (fun c => absurd c (by decide)) (fun _ => ?_)
    with_reducible refine nxU ?_
    with_reducible refine seqU ?_
    with_reducible refine lockSetU ?_
    have nm : ∀ key v, (key, v) ∈ bD es → ∃ z ∈ es, key = Sum.inr z.1 ∧ v = V.ref z.2 := fun key v m => by
      obtain ⟨z, hz, q⟩ := List.mem_map.mp m
      cases q
      exact ⟨z, hz, rfl, rfl⟩
    refine lc_pairsK (fun key => !decide (key = Sum.inr n)) (fun _ v => v) c.dic (by rw [bD_length]; have := ok.few; omega) (by show 3 < 4; decide) (fun od R r => ?_) (fun od key v m H1 Q' sm q => ?_) (fun od key v m pk H1 Q' sm q => ?_) (fun D qs H1 sm nD eD pr => ?_)
    · have nx : x ≠ t := fun z => by have := c.obj; rw [z, c.dic] at this; cases this
      exact ⟨_, rfl, x, _, dx, _, _, rfl, (upd_ne nx).trans c.obj, T.k_Book, T.a_Book__questions, rfl, r⟩
    · obtain ⟨z, hz, rfl, rfl⟩ := nm key v m
      refine ⟨_, rfl, _, rfl, .inl ⟨rfl, _, rfl, ?_⟩⟩
      have e1 : (!decide (V.str z.1 = V.str n)) = !decide ((Sum.inr z.1 : L2.Key) = Sum.inr n) := by
        by_cases h : z.1 = n
        · rw [h, decide_eq_true rfl, decide_eq_true rfl]
        · rw [decide_eq_false (fun q => h (by injection q)), decide_eq_false (fun q => h (Sum.inr.inj q))]
      show Q' (!decide (V.str z.1 = V.str n)) H1
      rw [e1]
      exact q
    · obtain ⟨z, hz, rfl, rfl⟩ := nm key v m
      have nx : x ≠ t := fun z => by have := c.obj; rw [z, c.dic] at this; cases this
      refine ⟨_, rfl, _, rfl, x, dx, _, rfl, sm _ _ ((upd_ne nx).trans c.obj), x, dx, sa, t, es, z.1, z.2, rfl, ⟨sm _ _ ((upd_ne nx).trans c.obj), .inr ⟨od, sm _ _ upd_same⟩⟩, bat_mem ok.nd hz, q⟩
    have fl : ((bD es).filter fun kv => !decide (kv.1 = Sum.inr n)) = bD (es.filter fun z => !decide (z.1 = n)) := by
      unfold bD
      rw [List.filter_map]
      refine congrArg _ (List.filter_congr fun z _ => ?_)
      show (!decide ((Sum.inr z.1 : L2.Key) = Sum.inr n)) = !decide (z.1 = n)
      by_cases h : z.1 = n
      · rw [h, decide_eq_true rfl, decide_eq_true rfl]
      · rw [decide_eq_false h, decide_eq_false (fun q => h (Sum.inr.inj q))]
    rw [fl, List.map_id'] at pr
    have es' : ((start ["self", "name", "pairs", "other"] [V.ref x, V.str n]).set 2 (some (V.ref D)) : L2.St) = [some (.ref x), some (.str n), some (.ref D), none] := rfl
    rw [es']
    with_reducible refine retU ?_
    refine ⟨_, rfl, x, _, dx, _, _, rfl, sm _ _ c.obj, T.k_Book, T.a_Book_shape, rfl, _, rfl, D, _, rfl, .inr (SqL.of eD), ?_⟩
    intro x' dx' hx' hdx' ne
    rw [List.append_nil]
    have sM := made_mid (o := .ins (He.ga K "Book") dx' []) hx' hdx'
    have sA := sm.trans sM
    have ndf : ((es.filter fun z => !decide (z.1 = n)).map (·.1)).Nodup := ok.nd.sublist (List.filter_sublist.map _)
    have lq := pr.length
    have lf := List.length_filter_le (fun z : Str × Addr => !decide (z.1 = n)) es
    have fw := ok.few
    refine ⟨x', dx', sa, ks, d, qs, es.filter fun z => !decide (z.1 = n), rfl, upd_same, (upd_ne ne).trans upd_same, s0.kp (.of sA), ?_, fun i b z hb hz => ?_, ndf, by omega, fun H3 t' fs k3 ht pm so bc => ⟨rfl, ?_⟩⟩
    · rw [lq, bD_length]
    · have he : (bD (es.filter fun z => !decide (z.1 = n)))[i]? = some (Sum.inr z.1, V.ref z.2) := by
        unfold bD
        rw [List.getElem?_map, hz]
        rfl
      have hm : z ∈ es := (List.mem_filter.mp (List.mem_of_getElem? hz)).1
      obtain ⟨q1, q2, sq, ls, e', ⟨dz, fz, o1, o2⟩, o3, o4⟩ := ok.each z hm
      exact ⟨sM _ _ (paired_at pr hb he), q1, q2, sq, ls, e', ⟨dz, fz, sA _ _ o1, o2⟩, o3.kp (.of sA), o4⟩
    · exact k H3 x' dx' t' fs (sm.trans (made_same hx' hdx' k3)) (sm.free (sM.free ht)) pm so bc
end
end L2.K20
set_option Elab.async false
set_option linter.all false
set_option maxRecDepth 100000
set_option maxHeartbeats 4000000
/-! A book with a question more. -/
namespace L2.K20
open PySem PySem.Spec PyProof.Rows L2.RV
/-- book.with_question(name, question) -/
def spWith (K : PySem.W.Frag) : Sp := fun vs H Q _ => ∃ x dx s t ks d es n a, vs = [.ref x, .str n, .ref a] ∧ BookC K H x dx s t es ∧ ShapeAt K H s ks d ∧ BookOk K H ks d es ∧ n.length ≤ sizeLine ∧ isName n = true ∧ (∃ s2 ls e, OfShape K H "Question" a s2 ∧ ShapeAt K H s2 ls e ∧ shapeEq ls e ks d = true) ∧
  ∀ H' y dy t' fs, Same H H' → H t' = none → fs.Perm ((n, a) :: es.filter fun z => !decide (z.1 = n)) → sortedS (fs.map (·.1)) = true → BookC K H' y dy s t' fs → Q (.ref y) H'
theorem nxsU {a b : TS} {r : V → Hp → Prop} {D : Ends} {σ : L2.St} {H : Hp} (h : tSeq a b D σ H) : ({ nx := tSeq a b D, rt := r } : Ends).nx σ H := h
section
variable {P : Program} {w : World} {K : PySem.W.Frag} {mg : Str → Option Value} {base : Heap} {fd : FuncData}
theorem ok_Book_with_question (T : Top w K mg) (D_is_name : Def P w K mg base "is_name" 1 ["value"] spName) (D_is_question_of : Def P w K mg base "is_question_of" 3 ["value", "shape"] (spIsOf K "Question")) (S_Book_getitem : MethS (L2.CX P w) P w K mg base (He.ga K "Book") "__getitem__" 4 ["self", "at"] (spBookAt K)) (R_BadBook : RzX P w K mg base "BadBook" (ca K 8) ["part"]) (R_BadName : RzX P w K mg base "BadName" (ca K 12) ["value"]) (C_Book : MakeR (L2.CX P w) P w K mg base "Book" (He.ga K "Book") 6 (spBook K)) {f : Addr} (F : FunD K "with_question" "Book.with_question" (defArgs s_Book_with_question) (defBody s_Book_with_question) (defScope s_Book_with_question) [] [] f fd) : FnOk P w K mg base (L2.CX P w) 8 f fd ["self", "name", "question"] (spWith K) := by
  refine F.ok sc_Book_with_question (fun vs H Q E h => ?_) (fun cdv A outer s H vs Q E hr h => ?_)
  · obtain ⟨x, dx, s, t, ks, d, es, n, a, rfl, _⟩ := h
    rfl
  · obtain ⟨x, dx, sa, t, ks, d, es, n, a, rfl, c, s0, ok, ln, hn, qa, k⟩ := h
    have hu := hr.units
    obtain ⟨s2, l2, e2, oq, sh2, eq2⟩ := qa
    refine ⟨_, (pss_cons (ps_if (pt_not (pt_val (pe_callD D_is_name (hr.mono (by decide)) rfl (pa_cons (pv 1) pa_nil)))) (pss_one (ps_rz R_BadName rfl (hr.mono (by decide)) (takes_of rfl rfl rfl rfl) rfl (pa_cons (pv 1) pa_nil))) pss_nil)
      (pss_cons (ps_if (pt_not (pt_val (pe_callD D_is_question_of (hr.mono (by decide)) rfl (pa_cons (pv 2) (pa_cons (pe_fldK (K := K) rfl (pv 0) rfl) pa_nil))))) (pss_one (ps_rz R_BadBook rfl (hr.mono (by decide)) (takes_of rfl rfl rfl rfl) rfl (pa_cons pe_str pa_nil))) pss_nil)
      (pss_cons (ps_lock (ps_setLc (i := 3) (own := [("other", 5)]) (g := gName 5) (by rfl) sc_Book_with_question.nd rfl rfl (sw_true rfl rfl rfl (by decide +kernel)) (pi_keys (pe_fldK (K := K) rfl (pv 0) rfl)) (blkOk_by (own := [("other", 5)]) (N := ["self", "name", "question", "others", "pairs", "other"]) (sc := defScope s_Book_with_question) (by decide +kernel)) (fun _ _ _ _ _ => by exact (pg_name (i := 5) sc_Book_with_question.nd rfl (by first | exact Or.inl rfl | exact Or.inr rfl))) (fun _ _ _ _ _ => by exact (pts_one (pt_cmpR (op_diffK (K := K) rfl hu) (pv 5) (pv 1) (nomark _)))) (fun _ _ _ _ _ => by exact (pe_tup (pa_cons (pv 5) (pa_cons (pe_ixO S_Book_getitem (hr.mono (by decide)) pass_E0 (pv 0) (pv 5)) pa_nil))))))
      (pss_cons (ps_set (i := 4) sc_Book_with_question.nd rfl (by first | exact Or.inl rfl | exact Or.inr rfl) (pe_lstN (pa_cons (pe_tup (pa_cons (pv 1) (pa_cons (pv 2) pa_nil))) (StX.pa_star (pv 3) pa_nil))))
      (pss_one (ps_ret (pe_mkRS C_Book (hr.mono (by decide)) rfl pass_E0 (pa_cons (pe_fldK (K := K) rfl (pv 0) rfl) (StX.pa_star (pv 4) pa_nil))))))))), ?_⟩
    refine ⟨_, rfl, n, rfl, ln, _, rfl, ?_⟩
    rw [hn]
    refine ite2 (fun c => absurd c (by decide)) (fun _ => ?_)
    with_reducible refine nxU ?_
    refine ⟨_, rfl, _, rfl, x, _, dx, _, _, rfl, c.obj, T.k_Book, T.a_Book_shape, rfl, a, sa, s2, l2, e2, ks, d, rfl, oq, sh2, s0, _, rfl, ?_⟩
    rw [eq2]
    refine ite2 (fun c => absurd c (by decide)) (fun _ => ?_)
    with_reducible refine nxU ?_
    with_reducible refine seqU ?_
    with_reducible refine lockSetU ?_
    have nm : ∀ key v, (key, v) ∈ bD es → ∃ z ∈ es, key = Sum.inr z.1 ∧ v = V.ref z.2 := fun key v m => by
      obtain ⟨z, hz, q⟩ := List.mem_map.mp m
      cases q
      exact ⟨z, hz, rfl, rfl⟩
    refine lc_pairsK (fun key => !decide (key = Sum.inr n)) (fun _ v => v) c.dic (by rw [bD_length]; have := ok.few; omega) (by show 5 < 6; decide) (fun od R r => ?_) (fun od key v m H1 Q' sm q => ?_) (fun od key v m pk H1 Q' sm q => ?_) (fun D qs H1 sm nD eD pr => ?_)
    · have nx : x ≠ t := fun z => by have := c.obj; rw [z, c.dic] at this; cases this
      exact ⟨_, rfl, x, _, dx, _, _, rfl, (upd_ne nx).trans c.obj, T.k_Book, T.a_Book__questions, rfl, r⟩
    · obtain ⟨z, hz, rfl, rfl⟩ := nm key v m
      refine ⟨_, rfl, _, rfl, .inl ⟨rfl, _, rfl, ?_⟩⟩
      have e1 : (!decide (V.str z.1 = V.str n)) = !decide ((Sum.inr z.1 : L2.Key) = Sum.inr n) := by
        by_cases h : z.1 = n
        · rw [h, decide_eq_true rfl, decide_eq_true rfl]
        · rw [decide_eq_false (fun q => h (by injection q)), decide_eq_false (fun q => h (Sum.inr.inj q))]
      show Q' (!decide (V.str z.1 = V.str n)) H1
      rw [e1]
      exact q
    · obtain ⟨z, hz, rfl, rfl⟩ := nm key v m
      have nx : x ≠ t := fun z => by have := c.obj; rw [z, c.dic] at this; cases this
      refine ⟨_, rfl, _, rfl, x, dx, _, rfl, sm _ _ ((upd_ne nx).trans c.obj), x, dx, sa, t, es, z.1, z.2, rfl, ⟨sm _ _ ((upd_ne nx).trans c.obj), .inr ⟨od, sm _ _ upd_same⟩⟩, bat_mem ok.nd hz, q⟩
    have fl : ((bD es).filter fun kv => !decide (kv.1 = Sum.inr n)) = bD (es.filter fun z => !decide (z.1 = n)) := by
      unfold bD
      rw [List.filter_map]
      refine congrArg _ (List.filter_congr fun z _ => ?_)
      show (!decide ((Sum.inr z.1 : L2.Key) = Sum.inr n)) = !decide (z.1 = n)
      by_cases h : z.1 = n
      · rw [h, decide_eq_true rfl, decide_eq_true rfl]
      · rw [decide_eq_false h, decide_eq_false (fun q => h (Sum.inr.inj q))]
    rw [fl, List.map_id'] at pr
    have es' : ((start ["self", "name", "question", "others", "pairs", "other"] [V.ref x, V.str n, V.ref a]).set 3 (some (V.ref D)) : L2.St) = [some (.ref x), some (.str n), some (.ref a), some (.ref D), none, none] := rfl
    rw [es']
    have lq := pr.length
    have lf := List.length_filter_le (fun z : Str × Addr => !decide (z.1 = n)) es
    have fw := ok.few
    rw [bD_length] at lq
    with_reducible refine nxsU ?_
    with_reducible refine setsU ?_
    refine ⟨_, rfl, _, rfl, (by show 2 ≤ sizeLine; decide), fun q nq => ?_⟩
    have sq := same_new (o := .tup [.str n, .ref a]) nq
    refine ⟨_, rfl, D, _, rfl, .inr (SqL.of (sq _ _ eD)), ?_, fun r nr _ => ?_⟩
    · rw [List.append_nil]
      show (qs.map V.ref).length + 1 ≤ sizeLine
      rw [List.length_map, sizeLine_eq]
      omega
    rw [List.append_nil]
    have sr := sq.trans (same_new (o := .lst (V.ref q :: qs.map V.ref)) nr)
    have eR : (upd (upd H1 q (.tup [.str n, .ref a])) r (.lst (V.ref q :: qs.map V.ref))) r = some (.lst ((q :: qs).map V.ref)) := upd_same
    have eq1 : (upd (upd H1 q (.tup [.str n, .ref a])) r (.lst (V.ref q :: qs.map V.ref))) q = some (.tup [.str n, .ref a]) := (same_new nr) _ _ upd_same
    generalize upd (upd H1 q (.tup [.str n, .ref a])) r (.lst (V.ref q :: qs.map V.ref)) = H2 at sr eR eq1 ⊢
    have sm2 := sm.trans sr
    show tRet _ _ [some (.ref x), some (.str n), some (.ref a), some (.ref D), some (.ref r), none] H2
    with_reducible refine retU ?_
    refine ⟨_, rfl, x, _, dx, _, _, rfl, sm2 _ _ c.obj, T.k_Book, T.a_Book_shape, rfl, _, rfl, r, _, rfl, .inr (SqL.of eR), ?_⟩
    intro x' dx' hx' hdx' ne
    rw [List.append_nil]
    have sM := made_mid (o := .ins (He.ga K "Book") dx' []) hx' hdx'
    have sA := sm2.trans sM
    have ndf : ((es.filter fun z => !decide (z.1 = n)).map (·.1)).Nodup := ok.nd.sublist (List.filter_sublist.map _)
    have nin : n ∉ (es.filter fun z => !decide (z.1 = n)).map (·.1) := fun m => by
      obtain ⟨z, hz, q⟩ := List.mem_map.mp m
      have := (List.mem_filter.mp hz).2
      rw [q, decide_eq_true rfl] at this
      cases this
    have ql : ∀ z ∈ es, ∃ s ls e, OfShape K (upd (upd H2 dx' (.own x')) x' (.ins (He.ga K "Book") dx' [])) "Question" z.2 s ∧ ShapeAt K (upd (upd H2 dx' (.own x')) x' (.ins (He.ga K "Book") dx' [])) s ls e ∧ shapeEq ls e ks d = true := fun z hz => by
      obtain ⟨_, _, sq, ls, e', ⟨dz, fz, o1, o2⟩, o3, o4⟩ := ok.each z hz
      exact ⟨sq, ls, e', ⟨dz, fz, sA _ _ o1, o2⟩, o3.kp (.of sA), o4⟩
    refine ⟨x', dx', sa, ks, d, q :: qs, (n, a) :: es.filter fun z => !decide (z.1 = n), rfl, upd_same, (upd_ne ne).trans upd_same, s0.kp (.of sA), ?_, fun i b z hb hz => ?_, List.nodup_cons.mpr ⟨nin, ndf⟩, ?_, fun H3 t' fs k3 ht pm so bc => ⟨rfl, ?_⟩⟩
    · rw [List.length_cons, List.length_cons, lq]
    · cases i with
      | zero =>
        cases hb
        cases hz
        obtain ⟨dz, fz, o1, o2⟩ := oq
        exact ⟨sM _ _ eq1, ln, hn, s2, l2, e2, ⟨dz, fz, sA _ _ o1, o2⟩, sh2.kp (.of sA), eq2⟩
      | succ i =>
        have hz2 : (es.filter fun z => !decide (z.1 = n))[i]? = some z := hz
        have he : (bD (es.filter fun z => !decide (z.1 = n)))[i]? = some (Sum.inr z.1, V.ref z.2) := by
          unfold bD
          rw [List.getElem?_map, hz2]
          rfl
        have hm : z ∈ es := (List.mem_filter.mp (List.mem_of_getElem? hz2)).1
        obtain ⟨q1, q2, _⟩ := ok.each z hm
        exact ⟨sM _ _ (sr _ _ (paired_at pr (i := i) hb he)), q1, q2, ql z hm⟩
    · rw [List.length_cons]
      omega
    · exact k H3 x' dx' t' fs (sm2.trans (made_same hx' hdx' k3)) (sm2.free (sM.free ht)) pm so bc
end
end L2.K20
set_option Elab.async false
set_option linter.all false
set_option maxRecDepth 100000
set_option maxHeartbeats 4000000
/-! The names of the law's entries. -/
namespace L2.K20
open PySem PySem.Spec PyProof.Rows L2.RV
/-- _law_names(entries): the names in order -/
def spNames : Sp := fun vs H Q _ => ∃ t es, vs = [.ref t] ∧ H t = some (.dK (bD es)) ∧ (es.map (·.1)).Nodup ∧ es.length ≤ 40 ∧
  ∀ H' p ys, Same H H' → H p = none → ys.Perm (es.map (·.1)) → sortedS ys = true → H' p = some (.lst (ys.map V.str)) → Q (.ref p) H'
section
variable {P : Program} {w : World} {K : PySem.W.Frag} {mg : Str → Option Value} {base : Heap} {fd : FuncData}
theorem ok_law_names (T : Top w K mg) (F : Fn K "_law_names" s_law_names fd) : FnOk P w K mg base CX0 1 (He.ga K "_law_names") fd ["_law_entries_here"] spNames := by
  refine F.ok sc_law_names (fun vs H Q E h => ?_) (fun cdv A outer s H vs Q E hr h => ?_)
  · obtain ⟨t, es, rfl, _⟩ := h
    rfl
  · obtain ⟨t, es, rfl, ht, nd, few, k⟩ := h
    have hu := hr.units
    refine ⟨_, PSs.nox (pss_one (ps_ret (pe_callB cr_sortedS rfl T.n_sorted (by decide +kernel) (pa_cons (pe_lock (pe_lc (own := [("_law_name", 1)]) (g := gName 1) (tt := tYes) (by rfl) sc_law_names.nd (pi_keys (pv 0)) (blkOk_by (own := [("_law_name", 1)]) (N := ["_law_entries_here", "_law_name"]) (sc := defScope s_law_names) (by decide +kernel)) (fun _ _ _ _ _ => by exact (pg_name (i := 1) sc_law_names.nd rfl (by first | exact Or.inl rfl | exact Or.inr rfl))) (fun _ _ _ _ _ => by exact pts_nil) (fun _ _ _ _ _ => by exact (pe_callTy SkE.call_str_str rfl T.n_str (by decide +kernel) (pa_cons (pv 1) pa_nil))))) pa_nil)))), ?_⟩
    have keys : (bD es).map (·.1) = (es.map (·.1)).map Sum.inr := by unfold bD; rw [List.map_map, List.map_map]; rfl
    with_reducible refine retU ?_
    refine cb1U ?_
    refine lc_keysK (fun _ => true) (fun kk => kV kk) ht (by rw [bD_length]; omega) (by show 1 < 2; decide) (fun od R' r' => ⟨_, rfl, r'⟩) (fun od key v _ H3 Q' _ q => q) (fun od key v mk _ H3 Q' _ q => ?_) (fun D H3 sm3 nD eD => ?_)
    · obtain ⟨zz, _, ez⟩ := List.mem_map.mp mk
      cases ez
      exact ⟨_, rfl, zz.1, rfl, q⟩
    · rw [filt_all, keys, List.map_map] at eD
      have eD2 : H3 D = some (.lst ((es.map (·.1)).map V.str)) := eD
      refine ⟨D, es.map (·.1), rfl, .inl (.inl eD2), by rw [List.length_map]; omega, fun ys q pm so hq => ?_⟩
      exact k _ q ys (sm3.trans (same_new hq)) (sm3.free hq) pm so upd_same
end
end L2.K20
set_option Elab.async false
set_option linter.all false
set_option maxRecDepth 100000
set_option maxHeartbeats 4000000
/-! A dict made of the items of a dict by texts and numbers. -/
namespace L2.RV
open PySem PySem.Spec PyProof.Rows
/-- {k: f(k, v) for k, v in d.items()} -/
theorem dc_itemsK {K : PySem.W.Frag} {td tv : TE} {i j : Nat} {σ : L2.St} {H : Hp} {Q : VK} {t : Addr} {kvs : List (L2.Key × V)} (f : L2.Key → V → V) (e : H t = some (.dK kvs)) (nd : (kvs.map (·.1)).Nodup) (small : kvs.length ≤ 1000)
    (hi : ∀ od (R : V → Hp → Prop), R (.ref t) (upd H t (.frz od (.dK kvs))) → td σ (upd H t (.frz od (.dK kvs))) R) {vs : List Nat}
    (wp : ∀ x y : V, wipe (((wipe σ vs).set i (some x)).set j (some y)) vs = wipe σ vs) (gi : ∀ x y : V, (((wipe σ vs).set i (some x)).set j (some y))[i]? = some (some x))
    (hv : ∀ (od : Obj) (key : L2.Key) (v : V), (key, v) ∈ kvs → ∀ (H1 : Hp) (Q' : VK), Same (upd H t (.frz od (.dK kvs))) H1 → (∀ H2, Same H1 H2 → Q' (f key v) H2) → tv (((wipe σ vs).set i (some (kV key))).set j (some v)) H1 Q')
    (k : ∀ D H', Same H H' → H D = none → H' D = some (.dK (kvs.map fun kv => (kv.1, f kv.1 kv.2))) → Q (.ref D) H') :
    tLockE (tDc (iItems td) (gTup K 2 (gCons (gName i) (gCons (gName j) gNil))) tYes (tVar i) tv vs) σ H Q := by
  refine ⟨t, .dK kvs, e, True.intro, fun od => ?_⟩
  refine hi od _ ⟨t, od, kvs, rfl, upd_same, fun D hD => ?_⟩
  refine dcK_it walk_items (fun m H' => H' D = some (.dK ((kvs.take m).map fun kv => (kv.1, f kv.1 kv.2))) ∧ Same (upd H t (.frz od (.dK kvs))) H') ⟨upd_same, same_new hD⟩ (fun m H' _ z => z.2 _ _ upd_same) (fun m x H1 H2 lt z y => ?_) (fun H' z => ?_)
  · obtain ⟨hDl, sm⟩ := z
    obtain ⟨T, cv, nv, rfl, nT, rfl, hc, hn⟩ := y
    have hz : kvs[m]? = some kvs[m] := List.getElem?_eq_getElem lt
    have mz : (kvs[m].1, kvs[m].2) ∈ kvs := List.getElem_mem _
    generalize kvs[m] = z at hz mz
    dsimp only at hc hn
    rw [hz] at hc hn
    cases hc
    cases hn
    have nD : D ≠ T := fun q => by rw [q, nT] at hDl; cases hDl
    have sm2 := sm.trans (same_new (o := .tup [kV z.1, z.2]) nT)
    have et := take_snoc hz
    have nw : valV ((kvs.take m).map fun kv => (kv.1, f kv.1 kv.2)) z.1 = none := by
      have n1 : ((kvs.take (m + 1)).map (·.1)).Nodup := nd.sublist ((List.take_sublist _ _).map _)
      rw [et, List.map_append] at n1
      have n2 := (List.nodup_append.mp n1).2.2
      unfold valV
      rw [List.find?_eq_none.mpr]
      · rfl
      · intro kv hk
        obtain ⟨y, hy, rfl⟩ := List.mem_map.mp hk
        intro q
        exact n2 y.1 (List.mem_map_of_mem hy) z.1 (List.mem_singleton.mpr rfl) (of_decide_eq_true q)
    refine ⟨T, _, rfl, SqT.of upd_same, rfl, _, _, rfl, _, _, rfl, rfl, wp _ _, ?_⟩
    with_reducible refine yesU ?_
    refine ⟨kV z.1, gi _ _, hv od _ _ mz _ _ sm2 fun H4 s4 => ⟨_, z.1, rfl, s4 _ _ ((upd_ne nD).trans hDl), ?_, ?_, fun c' o ec => ?_⟩⟩
    · rw [List.length_map, List.length_take, sizeLine_eq]
      omega
    · rw [upd_same, putK_new _ nw, et, List.map_append]
      rfl
    · have n1 : c' ≠ D := ne_of_none ec hD
      exact (upd_ne n1).trans (s4 _ _ (sm2 _ _ ec))
  · obtain ⟨hDl, sm⟩ := z
    rw [List.take_length] at hDl
    obtain ⟨n, fr⟩ := unlock_free hD
    exact ⟨sm _ _ upd_same, k D _ (unlock_same e sm) fr ((upd_ne n).trans hDl)⟩
end L2.RV
set_option Elab.async false
set_option linter.all false
set_option maxRecDepth 100000
set_option maxHeartbeats 4000000
/-! Instances called, classes called by keywords, as bundles. -/
namespace L2.RV
open PySem PySem.Spec PyProof.Rows
/-- the instances of C may be called, by one value or by one keyword -/
structure CallX (CX : CXT) (P : Program) (w : World) (K : PySem.W.Frag) (mg : Str → Option Value) (base : Heap) (C : Addr) (k : Nat) (ps ks : List Str) (sp : Sp) : Prop where
  ex : ∃ g fd, StX.CallO K C g ∧ Binds K fd ps [] ∧ FnOk P w K mg base CX k g fd ps sp ∧ KBn K fd ps 1 ks (fun us ws => us ++ ws) (fun us ws => us ++ ws)
section
variable {X : Cx} {CX : CXT} {C : Addr} {k : Nat} {ps ks : List Str} {sp : Sp} {E : XK} {pos : Pos} {fe e : Expr} {es : List Expr} {kws : List Keyword} {tf : TE} {t tk : TA}
theorem pe_callOX (D : CallX CX X.prog X.w X.K X.mg X.base C k ps ks sp) (hr : Room k X.A) (hx : Passes CX X E) (hf : PE X fe tf) (ha : PA X (e :: es) t)
    (ht : eval (.Call fe (e :: es) [] pos) X.env = (do callWith pos (← eval fe X.env) [] (backTo pos (starEach (e :: es) X.env)) (backToKw pos (keywordEach [] X.env))) := by rfl)
    (he : starEach (e :: es) X.env = (false, eval e X.env) :: starEach es X.env := by rfl) (hpl : (backTo pos (starEach es X.env)).any (·.1) = false := by rfl) : PE X (.Call fe (e :: es) [] pos) (StX.tCallO X C sp E tf t) := by
  obtain ⟨g, fd, c, b, F, _⟩ := D.ex
  exact StX.pe_callO hf c (FnR.imp (F.raw b .nil) fun vs H Q E h => by rw [List.append_nil]; exact h) hr hx ha ht he hpl
theorem pe_callKX (D : CallX CX X.prog X.w X.K X.mg X.base C k ps ks sp) (hr : Room k X.A) (hx : Passes CX X E) (hf : PE X fe tf) (hkw : PK X kws tk)
    (hall : (backToKw pos (keywordEach kws X.env)).all (·.1.isSome) = true := by rfl) (hks : (backToKw pos (keywordEach kws X.env)).filterMap (·.1) = ks := by rfl)
    (hpl : ((backTo pos (starEach [] X.env)).any (·.1) || (backToKw pos (keywordEach kws X.env)).any (·.1.isNone)) = false := by rfl)
    (ht : eval (.Call fe [] kws pos) X.env = (do callWith pos (← eval fe X.env) [] (backTo pos (starEach [] X.env)) (backToKw pos (keywordEach kws X.env))) := by rfl) :
    PE X (.Call fe [] kws pos) (tCallK X C ks.length sp (fun us ws => us ++ ws) E tf tk) := by
  obtain ⟨g, fd, c, b, F, kb⟩ := D.ex
  exact pe_callK hf c F hr kb hx hkw hall hks hpl ht
end
end L2.RV
namespace L2.RV
open PySem PySem.Spec PyProof.Rows
/-- the class x, made by keywords alone; they are written in the order that is the reverse of the parameters' -/
structure MakeKX (CX : CXT) (P : Program) (w : World) (K : PySem.W.Frag) (mg : Str → Option Value) (base : Heap) (x : Str) (C : Addr) (k : Nat) (ps ks : List Str) (sp : Sp) : Prop where
  ex : ∃ f fd, Mk K C f ∧ mg x = some (.ref C) ∧ FnOk P w K mg base CX k f fd ps sp ∧ KBn K fd ps 1 ks (fun us ws => us ++ ws.reverse) (fun us ws => us ++ ws.reverse)
theorem pe_mkKX {X : Cx} {CX : CXT} {x : Str} {C : Addr} {k : Nat} {ps ks : List Str} {sp : Sp} {E : XK} {p pos : Pos} {kws : List Keyword} {tk : TA} (D : MakeKX CX X.prog X.w X.K X.mg X.base x C k ps ks sp) (hr : Room (k + 1) X.A) (hg : Gl X x) (hx : Passes CX X E)
    (hkw : PK X kws tk) (hall : (backToKw pos (keywordEach kws X.env)).all (·.1.isSome) = true := by rfl) (hks : (backToKw pos (keywordEach kws X.env)).filterMap (·.1) = ks := by rfl)
    (hdb : (x == ("__debug__" : Str)) = false := by decide)
    (hpl : ((backTo pos (starEach [] X.env)).any (·.1) || (backToKw pos (keywordEach kws X.env)).any (·.1.isNone)) = false := by rfl) :
    PE X (.Call (.Name x p) [] kws pos) (tMakeK C ks.length sp (fun us ws => us ++ ws.reverse) E tk) := by
  obtain ⟨f, fd, M, hm, F, kb⟩ := D.ex
  exact pe_makeK M F hr hg hm kb hx hkw hall hks hdb hpl
end L2.RV
set_option Elab.async false
set_option linter.all false
set_option maxRecDepth 100000
set_option maxHeartbeats 4000000
/-! Instances called in the parts of comprehensions. -/
namespace L2.RV
open PySem PySem.Spec PyProof.Rows
/-- o(e, ..), o an instance of C -/
def tCallI (C : Addr) (sp : Sp) (E : XK) (tf : TE) (t : TA) : TE := fun σ H Q => tf σ H fun y H1 => ∃ a, y = V.ref a ∧ t σ H1 fun vs H2 => ((∃ dx us, SlX.Slt H2 a C dx us) ∨ ∃ dx fs, H2 a = some (.ins C dx fs)) ∧ sp (V.ref a :: vs) H2 Q E
variable {X : Cx} {CX : CXT} {C : Addr} {k : Nat} {ps ks : List Str} {sp : Sp} {E : XK} {pos : Pos} {fe e : Expr} {es : List Expr} {tf : TE} {t : TA}
theorem pe_callOI (D : CallX CX X.prog X.w X.K X.mg X.base C k ps ks sp) (hr : Room k X.A) (hx : Passes CX X E) (hf : PE X fe tf) (ha : PA X (e :: es) t)
    (ht : eval (.Call fe (e :: es) [] pos) X.env = (do callWith pos (← eval fe X.env) [] (backTo pos (starEach (e :: es) X.env)) (backToKw pos (keywordEach [] X.env))) := by rfl)
    (he : starEach (e :: es) X.env = (false, eval e X.env) :: starEach es X.env := by rfl) (hpl : (backTo pos (starEach es X.env)).any (·.1) = false := by rfl) : PE X (.Call fe (e :: es) [] pos) (tCallI C sp E tf t) := pe_callOX D hr hx hf ha ht he hpl
end L2.RV
set_option Elab.async false
set_option linter.all false
set_option maxRecDepth 100000
set_option maxHeartbeats 4000000
/-! A book asked of a table. -/
namespace L2.K20
open PySem PySem.Spec PyProof.Rows L2.RV
/-- book(table): each question's total -/
def spBookCall (K : PySem.W.Frag) : Sp := fun vs H Q _ => ∃ x dx s t ks d es a am, ∃ wf : Str → List (Pl × Int), vs = [.ref x, .ref a] ∧ BookC K H x dx s t es ∧ ShapeAt K H s ks d ∧ Held K H "Table" "amounts" a s am ∧ Bits am ∧ (es.map (·.1)).Nodup ∧ es.length ≤ 40 ∧
  (∀ z ∈ es, ∃ tq, HeldX K H "Question" "weights" z.2 s tq (wf z.1) ∧ (∀ p ∈ wf z.1, p.1 ∈ placesOf ks d) ∧ (wf z.1).length ≤ 36 ∧ Bits (wf z.1)) ∧
  ∀ H' D, Same H H' → H D = none → H' D = some (.dK (es.map fun z => (Sum.inr z.1, V.int (total (wf z.1) am)))) → Q (.ref D) H'
section
variable {P : Program} {w : World} {K : PySem.W.Frag} {mg : Str → Option Value} {base : Heap} {fd : FuncData}
theorem ok_Book_call (T : Top w K mg) (D_is_table_of : Def P w K mg base "is_table_of" 3 ["value", "shape"] (spIsOf K "Table")) (CO_Question : CallX (L2.CX P w) P w K mg base (He.ga K "Question") 6 ["self", "table"] ["table"] (spCall K)) (R_BadTable : RzX P w K mg base "BadTable" (ca K 5) ["part"]) {f : Addr} (F : FunD K "__call__" "Book.__call__" (defArgs s_Book_call) (defBody s_Book_call) (defScope s_Book_call) [] [] f fd) : FnOk P w K mg base (L2.CX P w) 8 f fd ["self", "table"] (spBookCall K) := by
  refine F.ok sc_Book_call (fun vs H Q E h => ?_) (fun cdv A outer s H vs Q E hr h => ?_)
  · obtain ⟨x, dx, s, t, ks, d, es, a, am, wf, rfl, _⟩ := h
    rfl
  · obtain ⟨x, dx, sa, t, ks, d, es, a, am, wf, rfl, c, s0, ha, ba, nd, few, each, k⟩ := h
    have hu := hr.units
    refine ⟨_, (pss_cons (ps_if (pt_not (pt_val (pe_callD D_is_table_of (hr.mono (by decide)) rfl (pa_cons (pv 1) (pa_cons (pe_fldK (K := K) rfl (pv 0) rfl) pa_nil))))) (pss_one (ps_rz R_BadTable rfl (hr.mono (by decide)) (takes_of rfl rfl rfl rfl) rfl (pa_cons pe_str pa_nil))) pss_nil)
      (pss_one (ps_ret (pe_lock (pe_dc (own := [("name", 2), ("question", 3)]) (g := gTup K 2 (gCons (gName 2) (gCons (gName 3) gNil))) (tt := tYes) (by rfl) sc_Book_call.nd (pi_items (pe_fldK (K := K) rfl (pv 0) rfl)) (blkOk_by (own := [("name", 2), ("question", 3)]) (N := ["self", "table", "name", "question"]) (sc := defScope s_Book_call) (by decide +kernel)) (fun _ _ _ _ _ => by exact (pg_tup rfl (pgs_cons (pg_name (i := 2) sc_Book_call.nd rfl (by first | exact Or.inl rfl | exact Or.inr rfl)) (pgs_cons (pg_name (i := 3) sc_Book_call.nd rfl (by first | exact Or.inl rfl | exact Or.inr rfl)) pgs_nil)))) (fun _ _ _ _ _ => by exact pts_nil) (fun _ _ _ _ _ => by exact (pv 2)) (fun _ _ _ _ _ => by exact (pe_callOI CO_Question (hr.mono (by decide)) pass_E0 (pv 3) (pa_cons (pv 1) pa_nil)))))))), ?_⟩
    refine ⟨_, rfl, _, rfl, x, _, dx, _, _, rfl, c.obj, T.k_Book, T.a_Book_shape, rfl, a, sa, sa, ks, d, ks, d, rfl, ha.of, s0, s0, _, rfl, ?_⟩
    refine ite2 (fun c => absurd c (by rw [shapeEq_self d s0.good]; decide)) (fun _ => ?_)
    with_reducible refine nxU ?_
    with_reducible refine retU ?_
    have nx : x ≠ t := fun z => by have := c.obj; rw [z, c.dic] at this; cases this
    have ndk : ((bD es).map (·.1)).Nodup := by
      have e1 : (bD es).map (·.1) = (es.map (·.1)).map Sum.inr := by unfold bD; rw [List.map_map, List.map_map]; rfl
      rw [e1]
      exact List.Pairwise.map _ (fun _ _ n z => n (Sum.inr.inj z)) nd
    refine dc_itemsK (fun key _ => V.int (total (match key with | .inr n => wf n | .inl _ => []) am)) c.dic ndk (by rw [bD_length]; omega) (fun od R r => ?_) (fun _ _ => rfl) (fun _ _ => rfl) (fun od key v m H1 Q' sm q => ?_) (fun D H1 sm nD eD => ?_)
    · exact ⟨_, rfl, x, _, dx, _, _, rfl, (upd_ne nx).trans c.obj, T.k_Book, T.a_Book__questions, rfl, r⟩
    · obtain ⟨z, hz, ez⟩ := List.mem_map.mp m
      cases ez
      obtain ⟨tq, ⟨dz, fz, o1, o2, o3, o4⟩, mem, fw, bw⟩ := each z hz
      have lk : ∀ {b o}, H b = some o → b ≠ t → H1 b = some o := fun e n => sm _ _ ((upd_ne n).trans e)
      have n1 : ∀ {b o}, H b = some o → (∀ kvs, o ≠ .dK kvs) → b ≠ t := fun e n q => by rw [q, c.dic] at e; exact n _ (Option.some.inj e).symm
      have hq : HeldX K H1 "Question" "weights" z.2 sa tq (wf z.1) := ⟨dz, fz, lk o1 (n1 o1 fun _ q => nomatch q), o2, o3, lk o4 (n1 o4 fun _ q => nomatch q)⟩
      have kp : Kp0 H H1 := by
        refine ⟨fun b o f e => lk e fun q => ?_, fun b kvs _ h => ?_, fun b xs h => ?_⟩
        · rw [q, c.dic] at e
          cases e
          exact f
        · have nb : b ≠ t := fun q => by
            rcases h with h | ⟨od', h⟩
            · rw [q, c.dic] at h; cases h
            · rw [q, c.dic] at h; cases h
          exact Rd.keep h fun o e => lk e nb
        · have nb : b ≠ t := fun q => by
            rcases h with h | ⟨od', h⟩
            · rw [q, c.dic] at h; cases h
            · rw [q, c.dic] at h; cases h
          exact Rd.keep h fun o e => lk e nb
      exact ⟨_, rfl, _, rfl, _, rfl, .inr ⟨dz, fz, lk o1 (n1 o1 fun _ q => nomatch q)⟩, z.2, a, sa, tq, ks, d, wf z.1, am, rfl, hq, ha.kp kp, s0.kp kp, mem, fw, bw, ba, fun H2 s2 => q H2 s2⟩
    · refine k H1 D sm nD (eD.trans ?_)
      unfold bD
      rw [List.map_map]
      rfl
end
end L2.K20
set_option Elab.async false
set_option linter.all false
set_option maxRecDepth 100000
set_option maxHeartbeats 4000000
/-! Weights: what they are bared, their sums. -/
namespace L2.K20
open PySem PySem.Spec PyProof.Rows L2.RV
theorem atD_out {ws : List (Pl × Int)} {p : Pl} (h : p ∉ ws.map (·.1)) : atD ws p = 0 := by
  have z := valV_plD (p := p) ws
  rw [valV_out h] at z
  have y : V.int 0 = V.int (atD ws p) := z
  injection y with y
  exact y.symm
theorem atD_bare {ks : List Str} {d : Nat} (ok : ShOk ks d) {ws : List (Pl × Int)} {p : Pl} (hp : p ∈ placesOf ks d) : atD (bare ks d ws) p = atD ws p := by
  have nd : ((bare ks d ws).map (·.1)).Nodup := by
    unfold bare
    rw [List.map_map]
    have e : ((fun (z : Pl × Int) => z.1) ∘ fun p => (p, atD ws p)) = id := rfl
    rw [e, List.map_id]
    exact (nodup_places d ok.nd).sublist List.filter_sublist
  cases c : nz ws p with
  | true => exact at_mem nd (p, atD ws p) (List.mem_map.mpr ⟨p, List.mem_filter.mpr ⟨hp, c⟩, rfl⟩)
  | false =>
    rw [atD_out (fun z => ?_)]
    · unfold nz at c
      by_cases e : atD ws p = 0
      · exact e.symm
      · have : decide (V.int (atD ws p) = V.int 0) = false := decide_eq_false fun y => by injection y with y; exact e y
        rw [this] at c
        cases c
    · obtain ⟨z, hz, rfl⟩ := List.mem_map.mp z
      unfold bare at hz
      obtain ⟨q, hq, rfl⟩ := List.mem_map.mp hz
      have := (List.mem_filter.mp hq).2
      rw [show nz ws q = false from c] at this
      cases this
theorem mem_bareL {ws : List (Pl × Int)} {z : Pl × Int} : z ∈ bareL ws ↔ z ∈ ws ∧ z.2 ≠ 0 := by
  unfold bareL
  rw [List.mem_filter]
  refine and_congr_right fun _ => ?_
  constructor
  · intro h e
    rw [e] at h
    exact absurd h (by decide)
  · intro h
    have : decide (V.int z.2 = V.int 0) = false := decide_eq_false fun y => by injection y with y; exact h y
    rw [this]
    rfl
theorem nz_iff {ws : List (Pl × Int)} {p : Pl} : nz ws p = true ↔ atD ws p ≠ 0 := by
  unfold nz
  constructor
  · intro h e
    rw [e] at h
    exact absurd h (by decide)
  · intro h
    have : decide (V.int (atD ws p) = V.int 0) = false := decide_eq_false fun y => by injection y with y; exact h y
    rw [this]
    rfl
theorem nd_bareL {ws : List (Pl × Int)} (nd : (ws.map (·.1)).Nodup) : ((bareL ws).map (·.1)).Nodup := nd.sublist (List.filter_sublist.map _)
theorem isSome_bareL {ws : List (Pl × Int)} (nd : (ws.map (·.1)).Nodup) (p : Pl) : (valV (plD (bareL ws)) (plK p)).isSome = nz ws p := by
  by_cases h : p ∈ (bareL ws).map (·.1)
  · obtain ⟨z, hz, rfl⟩ := List.mem_map.mp h
    rw [valV_in (nd_bareL nd) z hz]
    obtain ⟨h1, h2⟩ := mem_bareL.mp hz
    symm
    rw [show (some (V.int z.2)).isSome = true from rfl, nz_iff, at_mem nd z h1]
    exact h2
  · rw [valV_out h]
    cases c : nz ws p with
    | false => rfl
    | true =>
      have c' := nz_iff.mp c
      exfalso
      by_cases m : p ∈ ws.map (·.1)
      · obtain ⟨z, hz, rfl⟩ := List.mem_map.mp m
        rw [at_mem nd z hz] at c'
        exact h (List.mem_map.mpr ⟨z, mem_bareL.mpr ⟨hz, c'⟩, rfl⟩)
      · exact c' (atD_out m)
theorem bare_bareL {ks : List Str} {d : Nat} {ws : List (Pl × Int)} (w : Wts ks d ws) (ok : ShOk ks d) : bare ks d ws = bareL ws := by
  have nd := w.nd ok
  have key : ∀ (ps : List Pl) (vs : List (Pl × Int)), (vs.map (·.1)).Sublist ps → ps.Nodup → (∀ p ∈ ps, atD vs p = atD ws p) → (vs.map (·.1)).Nodup → ((ps.filter (nz ws)).map fun p => (p, atD ws p)) = bareL vs := by
    intro ps
    induction ps with
    | nil =>
      intro vs sub _ _ _
      have e : vs = [] := by
        have := List.sublist_nil.mp sub
        cases vs with
        | nil => rfl
        | cons z r => cases this
      rw [e]
      rfl
    | cons p r ih =>
      intro vs sub ndp at_ ndv
      rw [List.nodup_cons] at ndp
      cases vs with
      | nil =>
        have z0 : nz ws p = false := by
          cases c : nz ws p with
          | false => rfl
          | true => exact absurd (by rw [← at_ p List.mem_cons_self]; rfl) (nz_iff.mp c)
        rw [List.filter_cons, z0]
        exact ih [] (List.nil_sublist _) ndp.2 (fun q hq => at_ q (List.mem_cons_of_mem _ hq)) .nil
      | cons z vs =>
        rw [List.map_cons] at sub ndv
        rw [List.nodup_cons] at ndv
        by_cases e : z.1 = p
        · subst e
          have sub2 : (vs.map (·.1)).Sublist r := by
            cases sub with
            | cons _ s => exact absurd (s.subset List.mem_cons_self) ndp.1
            | cons_cons _ s => exact s
          have az : atD ws z.1 = z.2 := by
            rw [← at_ z.1 List.mem_cons_self]
            unfold atD
            rw [List.find?_cons_of_pos (by simp)]
            rfl
          have rest := ih vs sub2 ndp.2 (fun q hq => by
            rw [← at_ q (List.mem_cons_of_mem _ hq)]
            have n : z.1 ≠ q := fun y => ndp.1 (by rw [y]; exact hq)
            unfold atD
            rw [List.find?_cons_of_neg (by simpa using n)]) ndv.2
          rw [List.filter_cons]
          unfold bareL at rest ⊢
          rw [List.filter_cons]
          have c : nz ws z.1 = !decide (V.int z.2 = V.int 0) := by unfold nz; rw [az]
          rw [c]
          cases h : (!decide (V.int z.2 = V.int 0)) with
          | false => exact rest
          | true =>
            show (z.1, atD ws z.1) :: _ = z :: _
            rw [az, rest]
        · have sub2 : ((z :: vs).map (·.1)).Sublist r := by
            rw [List.map_cons]
            cases sub with
            | cons _ s => exact s
            | cons_cons _ s => exact absurd rfl e
          have z0 : nz ws p = false := by
            cases c : nz ws p with
            | false => rfl
            | true =>
              refine absurd ?_ (nz_iff.mp c)
              rw [← at_ p List.mem_cons_self]
              refine atD_out fun m => ndp.1 (sub2.subset m)
          rw [List.filter_cons, z0]
          exact ih (z :: vs) sub2 ndp.2 (fun q hq => at_ q (List.mem_cons_of_mem _ hq)) (by rw [List.map_cons]; exact List.nodup_cons.mpr ndv)
  exact key _ _ w.sub (nodup_places d ok.nd) (fun _ _ => rfl) nd
theorem dtSame_self {ws : List (Pl × Int)} (nd : (ws.map (·.1)).Nodup) : dtSame (plD ws) (plD ws) = true := by
  unfold dtSame
  rw [beq_self_eq_true, Bool.true_and, List.all_eq_true]
  intro p hp
  unfold plD at hp
  obtain ⟨z, hz, rfl⟩ := List.mem_map.mp hp
  exact decide_eq_true (valV_in nd z hz)
theorem dtSame_nil (ws : List (Pl × Int)) : dtSame (plD ws) [] = ws.isEmpty := by
  cases ws with
  | nil => rfl
  | cons z r => rfl
theorem total_bare {ks : List Str} {d : Nat} (ok : ShOk ks d) (ws am : List (Pl × Int)) : total (bare ks d ws) (bare ks d am) = sumL ks d ws am := by
  have key : ∀ ps : List Pl, (∀ p ∈ ps, p ∈ placesOf ks d) → ((((ps.filter (nz ws)).map fun p => (p, atD ws p)).map fun z => z.2 * atD (bare ks d am) z.1).sum) = ((ps.map fun p => atD ws p * atD am p).sum : Int) := by
    intro ps
    induction ps with
    | nil => intro _; rfl
    | cons p r ih =>
      intro h
      have ih' := ih fun q hq => h q (List.mem_cons_of_mem _ hq)
      rw [List.filter_cons]
      cases c : nz ws p with
      | true =>
        rw [if_pos rfl, List.map_cons, List.map_cons, List.sum_cons, ih', List.map_cons, List.sum_cons, atD_bare ok (h p List.mem_cons_self)]
      | false =>
        rw [if_neg (by decide), ih', List.map_cons, List.sum_cons]
        have z : atD ws p = 0 := by
          by_cases e : atD ws p = 0
          · exact e
          · have := nz_iff.mpr e
            rw [c] at this
            cases this
        rw [z, Int.zero_mul, Int.zero_add]
  exact key _ fun _ h => h
theorem bare_nil (ks : List Str) (d : Nat) : bare ks d [] = [] := by
  unfold bare
  have : (placesOf ks d).filter (nz []) = [] := List.filter_eq_nil_iff.mpr fun p _ z => absurd (nz_iff.mp z) (by simp [atD])
  rw [this]
  rfl
theorem total_nil (ws : List (Pl × Int)) : total ws [] = 0 := by
  unfold total
  induction ws with
  | nil => rfl
  | cons z r ih =>
    rw [List.map_cons, List.sum_cons, ih]
    show z.2 * 0 + 0 = 0
    rw [Int.mul_zero]
    rfl
theorem bare_mem {ks : List Str} {d : Nat} {ws : List (Pl × Int)} : ∀ z ∈ bare ks d ws, z.1 ∈ placesOf ks d ∧ z.2 = atD ws z.1 := fun z hz => by
  unfold bare at hz
  obtain ⟨p, hp, rfl⟩ := List.mem_map.mp hz
  exact ⟨(List.mem_filter.mp hp).1, rfl⟩
theorem bare_few {ks : List Str} {d : Nat} (ok : ShOk ks d) (ws : List (Pl × Int)) : (bare ks d ws).length ≤ 36 := by
  have z := List.length_filter_le (nz ws) (placesOf ks d)
  rw [length_places] at z
  have := ok.few
  unfold bare
  rw [List.length_map]
  omega
theorem bare_bits {ks : List Str} {d : Nat} {ws : List (Pl × Int)} (b : Bits ws) : Bits (bare ks d ws) := fun z hz => by
  rw [(bare_mem z hz).2]
  exact b.at_ _
theorem atD_perm {gs ws : List (Pl × Int)} (p : gs.Perm ws) (nd : (ws.map (·.1)).Nodup) (x : Pl) : atD gs x = atD ws x := by
  have ndg : (gs.map (·.1)).Nodup := (p.map (·.1)).nodup_iff.mpr nd
  by_cases h : x ∈ ws.map (·.1)
  · obtain ⟨z, hz, rfl⟩ := List.mem_map.mp h
    rw [at_mem nd z hz, at_mem ndg z (p.mem_iff.mpr hz)]
  · rw [atD_out h, atD_out fun z => h ((p.map (·.1)).mem_iff.mp z)]
theorem nz_perm {gs ws : List (Pl × Int)} (p : gs.Perm ws) (nd : (ws.map (·.1)).Nodup) : nz gs = nz ws := by
  funext x
  unfold nz
  rw [atD_perm p nd]
theorem bare_perm {ks : List Str} {d : Nat} {gs ws : List (Pl × Int)} (p : gs.Perm ws) (nd : (ws.map (·.1)).Nodup) : bare ks d gs = bare ks d ws := by
  unfold bare
  rw [nz_perm p nd]
  exact List.map_congr_left fun x _ => by rw [atD_perm p nd]
theorem eqvAll_len : ∀ (xs ys : List PyData), xs.length ≠ ys.length → PyData.eqvAll xs ys = false
  | [], [], h => absurd rfl h
  | [], _ :: _, _ => by unfold PyData.eqvAll; rfl
  | _ :: _, [], _ => by unfold PyData.eqvAll; rfl
  | x :: xs, y :: ys, h => by
    unfold PyData.eqvAll
    rw [eqvAll_len xs ys (fun z => h (by rw [List.length_cons, List.length_cons, z])), Bool.and_false]
theorem shapeEq_len {ks ls : List Str} (d e : Nat) (h : ks.length ≠ ls.length) : shapeEq ks d ls e = false := by
  have z : PyData.eqv (keysD ks) (keysD ls) = false := by
    unfold keysD
    unfold PyData.eqv
    exact eqvAll_len _ _ (by rw [List.length_map, List.length_map]; exact h)
  unfold shapeEq
  rw [z]
  rfl
end L2.K20
set_option Elab.async false
set_option linter.all false
set_option maxRecDepth 100000
set_option maxHeartbeats 4000000
/-! == of two dicts by texts and numbers whose values answer by a == of their own. -/
namespace L2.RV
open PySem PySem.Spec PyProof.Rows
/-- what x == y answers, the heap being as before -/
abbrev EqB := V → V → Hp → Bool → Prop
def EqW (X : Cx) (n : Nat) (D : EqB) : Prop := ∀ (B : Around) (pins : List (Addr × Obj)) (s : Shared) (σ : L2.St) (H : Hp) (x y : V) (u v : Value) (b : Bool), Sub X n B → Inv X pins σ H s → RelV x u → RelV y v → D x y H b → wpAny (model X.prog X.w) B (eqBool u v) (fun r t => r = b ∧ Inv X pins σ H t) X.xe s
/-- two dicts hold the same, values compared by f -/
def dkSame (f : L2.Key → V → V → Bool) (ks ls : List (L2.Key × V)) : Bool := ks.length == ls.length && ks.all fun p => match valV ls p.1 with | none => false | some v => f p.1 p.2 v
section
variable {X : Cx} {n : Nat} {D : EqB} {pins : List (Addr × Obj)} {σ : L2.St} {H : Hp} {s : Shared}
theorem frz_in {d : Addr} {o : Obj} {kvs : List (L2.Key × V)} (I : Inv X pins σ H s) (h : H d = some (.frz o (.dK kvs))) :
    (d == sysModules) = false ∧ s.heap.get? d = some o ∧ o.ExactDict ∧ ∃ (es : Array DictEntry) (ep : Nat) (vs : List (L2.Key × Value)), o.data = .dict es ep ∧ KV kvs vs ∧ KeysOf (mixKind X.prog X.w) es ∧ Pairs (mixKind X.prog X.w) es.toList vs := by
  have z := I.hok d _ h
  obtain ⟨g, _, ns, vs, kv, o2, es, ep, g2, xd, dt, ko, pr, _⟩ := z
  rw [g] at g2
  cases g2
  exact ⟨ns, g, xd, es, ep, vs, dt, kv, ko, pr⟩
theorem same_pairsB {B : Around} {nm : String} {a b : Addr} {oa ob : Obj} {ks ls : List (L2.Key × V)} {Q : Bool → Shared → Prop} (sb : Sub X n B) (hD : EqW X n D) (f : L2.Key → V → V → Bool) (I : Inv X pins σ H s) (ha : H a = some (.frz oa (.dK ks))) (hb : H b = some (.frz ob (.dK ls)))
    (hf : ∀ k v u, (k, v) ∈ ks → valV ls k = some u → D v u H (f k v u)) (hq : ∀ t, Inv X pins σ H t → Q (dkSame f ks ls) t) : wpAny (model X.prog X.w) B (Builtin.Dict.samePairs nm a b) Q X.xe s := by
  obtain ⟨na, ga, xa, es, ep, vs, da, kva, koa, pra⟩ := frz_in I ha
  obtain ⟨nb, gb, xb, fs, eq, us, db, kvb, kob, prb⟩ := frz_in I hb
  have la : ks.length = es.size := by rw [Paired.length kva, ← pra.length]; exact Array.length_toList
  have lb : ls.length = fs.size := by rw [Paired.length kvb, ← prb.length]; exact Array.length_toList
  have fnd : ∀ k, findBy (mixKind X.prog X.w).is fs k = valueAt us k := fun k => by
    rw [← prb.find k]
    clear lb kob db gb xb prb
    obtain ⟨l⟩ := fs
    simp [findBy]
  unfold Builtin.Dict.samePairs Builtin.Dict.showsAll
  rw [na, nb]
  simp only [Bool.false_eq_true, if_false]
  refine wpAny_bind (wpAny_pure (wpAny_bind (wpAny_pure ?_)))
  refine wpAny_bind (wpAny_dictEntries ga da (wpAny_bind (wpAny_dictEntries gb db ?_)))
  by_cases sz : es.size = fs.size
  · have len : (ks.length == ls.length) = true := by rw [la, lb, sz]; exact beq_self_eq_true _
    have hq2 : ∀ t, Inv X pins σ H t → Q (ks.all fun p => match valV ls p.1 with | none => false | some v => f p.1 p.2 v) t := fun t J => by
      have z := hq t J
      unfold dkSame at z
      rwa [len, Bool.true_and] at z
    rw [if_neg (by simp [sz])]
    refine wpAny_bind (wpAny_dictEpoch ga da (wpAny_bind ?_))
    rw [Std.Legacy.Range.forIn_eq_forIn_range']
    simp only [Std.Legacy.Range.size, Nat.sub_zero, Nat.add_sub_cancel, Nat.div_one]
    refine wpAny_forIn_list _ (fun rest q t => Inv X pins σ H t ∧ q = (none, ()) ∧ ∃ i, rest = List.range' i (es.size - i) ∧ i ≤ es.size ∧ ((ks.all fun p => match valV ls p.1 with | none => false | some v => f p.1 p.2 v) = (ks.drop i).all fun p => match valV ls p.1 with | none => false | some v => f p.1 p.2 v)) _ (fun x rest q t hx => ?_) (fun q t hx => ?_) _ _ ⟨I, rfl, 0, by simp, Nat.zero_le _, rfl⟩
    · obtain ⟨J, eq', i, hr, hi, pre⟩ := hx
      subst eq'
      have lt : i < es.size := by
        rcases Nat.lt_or_ge i es.size with z | z
        · exact z
        · rw [Nat.sub_eq_zero_of_le z] at hr
          cases hr
      have hr2 : x :: rest = i :: List.range' (i + 1) (es.size - (i + 1)) := by
        rw [hr, show es.size - i = (es.size - (i + 1)) + 1 by omega, List.range'_succ]
      obtain ⟨ex, er⟩ := List.cons.inj hr2
      subst ex
      obtain ⟨_, ga', _, _⟩ := frz_in J ha
      obtain ⟨_, gb', _, _⟩ := frz_in J hb
      refine wpAny_bind (wpAny_dictEntries ga' da ?_)
      rw [Array.getElem?_eq_getElem lt]
      have lk : x < ks.length := la.symm ▸ lt
      have lv : x < vs.length := by rw [← Paired.length kva]; exact lk
      obtain ⟨y, hy, kr, vr⟩ := paired_get kva (List.getElem?_eq_getElem lk)
      obtain ⟨hkey, hval⟩ := pra.get? (i := x) (e := es[x]) (k := y.1) (v := y.2) (by rw [Array.getElem?_toList]; exact Array.getElem?_eq_getElem lt) hy
      obtain ⟨k2, hk2, hh⟩ := koa es[x] (Array.getElem_mem lt)
      have ek : k2 = y.1 := (mixKind X.prog X.w).inj _ _ _ hk2 hkey
      rw [ek] at hh
      have mem : (ks[x].1, ks[x].2) ∈ ks := List.getElem_mem lk
      rw [List.drop_eq_getElem_cons lk, List.all_cons] at pre
      generalize ks[x] = kx at kr vr mem pre
      rw [← kr] at hkey hh
      rw [← hval] at vr
      show wpAny _ _ (holding [es[x].key, es[x].val] _ >>= _) _ _ _
      rw [hh]
      refine wpAny_bind (wpAny_holding (wpAny_bind (wpAny_dictFind_of hkey gb' db kob ?_)))
      have rel := kvb.val kx.1
      cases hj : fs.findIdx? fun e => (mixKind X.prog X.w).is kx.1 e.key with
      | none =>
        have no : valueAt us kx.1 = none := by rw [← fnd kx.1, findBy_of_findIdx?, hj]
        have nv : valV ls kx.1 = none := by
          rw [no] at rel
          cases c : valV ls kx.1 with
          | none => rfl
          | some v => rw [c] at rel; exact (show False from rel).elim
        refine wpAny_pure ?_
        show wpAny _ _ (if (!false) = true then _ else _) _ _ _
        rw [if_pos (by decide)]
        have z := hq2 t J
        rw [pre, nv] at z
        exact wpAny_pure (wpAny_pure z)
      | some j =>
        obtain ⟨jlt, _, _⟩ := Array.findIdx?_eq_some_iff_getElem.mp hj
        have hv : valueAt us kx.1 = some fs[j].val := by
          rw [← fnd kx.1, findBy_of_findIdx?, hj]
          simp [Array.getElem?_eq_getElem jlt]
        refine wpAny_bind (wpAny_dictEntries gb' db ?_)
        rw [Array.getElem?_eq_getElem jlt]
        rw [hv] at rel
        cases c : valV ls kx.1 with
        | none => rw [c] at rel; exact (show False from rel).elim
        | some v =>
          rw [c] at rel pre
          refine wpAny_holding (wpAny_mono (hD B pins t σ H kx.2 v es[x].val fs[j].val _ sb J vr rel (hf kx.1 kx.2 v mem c)) (fun r t2 z => ?_) fun _ _ z => z)
          obtain ⟨rfl, J2⟩ := z
          cases fv : f kx.1 kx.2 v with
          | false =>
            show wpAny _ _ (if (!false) = true then _ else _) _ _ _
            rw [if_pos (by decide)]
            have z := hq2 t2 J2
            rw [pre] at z
            dsimp only at z
            rw [fv, Bool.false_and] at z
            exact wpAny_pure (wpAny_pure z)
          | true =>
            show wpAny _ _ (if (!true) = true then _ else _) _ _ _
            rw [if_neg (by decide)]
            obtain ⟨_, ga2, _, _⟩ := frz_in J2 ha
            refine wpAny_bind (wpAny_dictEpoch ga2 da ?_)
            rw [if_neg (by simp)]
            dsimp only at pre
            rw [fv, Bool.true_and] at pre
            exact wpAny_pure ⟨J2, rfl, x + 1, er, lt, pre⟩
    · obtain ⟨J, eq', i, hr, hi, pre⟩ := hx
      subst eq'
      have ei : i = es.size := by
        rcases Nat.lt_or_ge i es.size with z | z
        · rw [show es.size - i = (es.size - (i + 1)) + 1 by omega, List.range'_succ] at hr
          cases hr
        · omega
      refine wpAny_pure ?_
      have z := hq2 t J
      rw [pre, ei, ← la, List.drop_length] at z
      exact z
  · have z := hq s I
    have ne : (ks.length == ls.length) = false := by rw [la, lb]; simpa using sz
    unfold dkSame at z
    rw [ne, Bool.false_and] at z
    rw [if_pos (by simp [sz])]
    exact wpAny_bind (wpAny_rule (wpAny_pure z))
/-- a == b, dicts by texts and numbers -/
def rEqB (D : EqB) : R2 := fun x y H Q => ∃ a b ks ls f, x = .ref a ∧ y = .ref b ∧ a ≠ b ∧ H a = some (.dK ks) ∧ H b = some (.dK ls) ∧ (∀ oa ob k v u, (k, v) ∈ ks → valV ls k = some u → D v u (upd (upd H a (.frz oa (.dK ks))) b (.frz ob (.dK ls))) (f k v u)) ∧ Q (.bl (dkSame f ks ls)) H
theorem op_eqB (hD : EqW X n D) (hr : Room (n + 1) X.A) : OpR X (compareOp .Eq) (rEqB D) := by
  intro pins s σ H x y v u Q I rx ry h
  obtain ⟨a, b, ks, ls, f, rfl, rfl, nab, ea, eb, hf, q⟩ := h
  cases (show v = Value.ref a from rx)
  cases (show u = Value.ref b from ry)
  have na := I.nofrz ea True.intro
  have nb := I.nofrz eb True.intro
  obtain ⟨oa, I1⟩ := I.lock ea True.intro
  obtain ⟨ob, I2⟩ := I1.lock (show (upd H a (.frz oa (.dK ks))) b = some (.dK ls) from (upd_ne (Ne.symm nab)).trans eb) True.intro
  have fa : (upd (upd H a (.frz oa (.dK ks))) b (.frz ob (.dK ls))) a = some (.frz oa (.dK ks)) := (upd_ne nab).trans upd_same
  have fb : (upd (upd H a (.frz oa (.dK ks))) b (.frz ob (.dK ls))) b = some (.frz ob (.dK ls)) := upd_same
  have back : upd (upd (upd (upd H a (.frz oa (.dK ks))) b (.frz ob (.dK ls))) b (.dK ls)) a (.dK ks) = H := by
    funext c
    by_cases c1 : c = a
    · rw [c1, upd_same, ea]
    · rw [upd_ne c1]
      by_cases c2 : c = b
      · rw [c2, upd_same, eb]
      · rw [upd_ne c2, upd_ne c2, upd_ne c1]
  obtain ⟨_, ga, xa, _⟩ := frz_in I2 fa
  obtain ⟨_, gb, xb, _⟩ := frz_in I2 fb
  have ta : s.TypeIs (.ref a) "dict" := ⟨_, ga, xa.1⟩
  have tb : s.TypeIs (.ref b) "dict" := ⟨_, gb, xb.1⟩
  refine wpAny_richCompare_same_room (op := .Eq) ta tb PySem.F.slot_dict_eq (wpAny_call_entry PySem.F.slot_dict_eq ta PySem.F.entry_dict_eq ?_ (PySem.F.args_dict_eq_2 _ _)) hr.units0
  show wpAny _ _ (Builtin.Dict.dictSlotArgs "__eq__" ⟨[.ref a, .ref b], []⟩ >>= _) _ _ s
  unfold Builtin.Dict.dictSlotArgs
  refine wpAny_bind (wpAny_bind (wpAny_notOrdered_dict ta ?_))
  show wpAny _ _ (pure (Value.ref a, Value.ref b)) _ _ s
  refine wpAny_pure (wpAny_bind (wpAny_isInstance (T := "dict") tb PySem.F.sub_dict_dict ?_))
  simp only [Bool.not_true, Bool.false_eq_true, if_false]
  refine wpAny_bind (wpAny_pure (wpAny_bind (wpAny_pure (wpAny_bind (same_pairsB (Sub.in1 ⟨hr, rfl⟩) hD f I2 fa fb (hf oa ob) fun t J => ?_)))))
  have J1 := J.unlock fb (fun o u z => nb o u z)
  have J2 := J1.unlock (show (upd (upd (upd H a (.frz oa (.dK ks))) b (.frz ob (.dK ls))) b (.dK ls)) a = some (.frz oa (.dK ks)) from (upd_ne nab).trans fa) (fun o u z => na o u z)
  rw [back] at J2
  refine wpAny_pure ⟨_, rfl, (fun z => nomatch z), ?_⟩
  exact ⟨.bl (dkSame f ks ls), H, J2, (by show (_ : Value) = _; simp), q⟩
/-- instances of C compared by their own == -/
def DOwn (K : PySem.W.Frag) (C : Addr) (sp : Sp) : EqB := fun x y H b => ∃ a c dx fs t, x = .ref a ∧ y = .ref c ∧ H a = some (.ins C dx fs) ∧ TyX K H y t ∧ PySem.W.notFirst K C t = true ∧ (a = c → b = true) ∧ ∀ E, sp [x, y] H (fun v H' => v = .bl b ∧ H' = H) E
theorem eqW_own {CX : CXT} {C : Addr} {E : XK} {ps : List Str} {sp : Sp} (M : MethS CX X.prog X.w X.K X.mg X.base C "__eq__" n ps sp) (hx : Passes CX X E) : EqW X n (DOwn X.K C sp) := by
  intro B pins s σ H x y u v b sb I rx ry d
  obtain ⟨a, c, dx, fs, t, rfl, rfl, e, ty, nf, same, q⟩ := d
  cases rx
  cases ry
  by_cases ac : a = c
  · subst ac
    rw [same rfl]
    exact SeqAt.EqAt.same (A := B) (s := s) (.ref a) X.prog X.w X.xe _ ⟨rfl, I⟩
  · refine GQ.eqBool_refG ac ?_
    obtain ⟨f, fd, M, fi, bd, F⟩ := M.ex
    obtain ⟨ox, od, J⟩ := ins_at I e
    obtain ⟨m, hF⟩ := I.fr
    obtain ⟨P, kx, hP, _⟩ := kit_of I (show RelV (.ref c) (.ref c) from rfl) ty
    refine PySem.W.cmp_K (op := .Eq) sb.room.units0 hF I.ok.mod.kin J (kx.ty _ _ I.kIn hP) nf M.at_ M.fn (wpAny_mono (run_at (vs := [.ref a, .ref c]) F bd sb.room sb.fr hx I (.cons rfl (.cons rfl .nil)) (q E)) (fun r t z => ?_) fun _ _ z => z)
    obtain ⟨z, H1, I1, rz, ez, rfl⟩ := z
    subst ez
    cases rz
    exact ⟨b, rfl, rfl, I1⟩
end
end L2.RV
set_option Elab.async false
set_option linter.all false
set_option maxRecDepth 100000
set_option maxHeartbeats 4000000
/-! Walks over an instance of an own class whose __iter__ answers the iterator of a locked dict by texts and numbers. -/
namespace L2.RV
open PySem PySem.Spec PyProof.Rows
/-- a dict's iterator that has not begun -/
def ItD (d : Addr) (o : Obj) (n : Nat) (it : Addr) : HO := .ext fun h => ∃ (es : Array DictEntry) (ep : Nat), o.data = .dict es ep ∧ h.IsKeyIter it d 0 n ep
theorem itD_ok {P : Program} {w : World} {H : Hp} {h : Heap} {d : Addr} {o : Obj} {n : Nat} {it : Addr} {es : Array DictEntry} {ep : Nat} (g : o.data = .dict es ep) (e : h.IsKeyIter it d 0 n ep) : ObjOk P w H h it (ItD d o n it) := by
  obtain ⟨u, q, c, r⟩ := id e
  exact ⟨⟨es, ep, g, e⟩, ⟨u, q⟩, fun h1 h2 z k => by
    obtain ⟨es2, ep2, g2, o1, q1, c1, d1⟩ := z
    exact ⟨es2, ep2, g2, o1, k _ q1, c1, d1⟩⟩
/-- iter(d) of a locked dict -/
def rIterD (n : Nat) : List V → Hp → VK → Prop := fun xs H Q => ∃ (d : Addr) (o : Obj) (kvs : List (L2.Key × V)), xs = [.ref d] ∧ H d = some (.frz o (.dK kvs)) ∧ ∀ it, H it = none → n ≤ it → Q (.ref it) (upd H it (ItD d o kvs.length it))
theorem call_iterD {X : Cx} : CallR X (.builtin "iter") (rIterD X.s_0.heap.objs.size) := by
  intro pins s σ H xs us Q I r h
  obtain ⟨d, o, kvs, rfl, hd, q⟩ := h
  obtain ⟨hs, hgd, hx, es, ep, vs, hdt, hsz, kv, hm⟩ := I.frzK hd
  obtain ⟨u, rfl, ru⟩ := vals1 r
  cases ru
  have ent := PySem.W.kdk_entry_iter
  have arg := PySem.W.kdk_args_iter (Value.ref d)
  refine Calls.call_function_entry (by decide +kernel) (by decide +kernel) ent arg (?_ : wpAny _ _ (Builtin.«iter» _) _ _ _)
  unfold Builtin.«iter»
  refine wpAny_bind (m := someArgs "iter" 1 2 _)
    (wpAny_of_eq (a := [Value.ref d]) (by first | rfl | kernel_rfl!) ?_)
  refine wpAny_bind (m := pyIter (Value.ref d))
    (iter_keys hs hgd hx hdt (wpAny_pure ⟨_, rfl, ?_⟩))
  have new : (s.heap.push { cls := .type "dict_keyiterator", data := .fields #[.ref d, .int 0 0, .int es.size 0, .int ep 0] }).IsKeyIter s.heap.objs.size d 0 kvs.length ep := ⟨_, Heap.get?_push_size _ rfl, rfl, by rw [hsz] <;> rfl⟩
  exact ⟨.ref s.heap.objs.size, _, I.laid (t' := s.toks) (fun b ob e => Heap.get?_push_of_some _ e) (Nat.le_refl _) (itD_ok hdt new), rfl, q _ (I.hok.fresh (Nat.le_refl _)) I.sz⟩
/-- over an instance of C -/
def iOwnD (C : Addr) (sp : Nat → Sp) (te : TE) : TI := fun σ H R => te σ H fun x H1 => ∃ a dx fs, x = .ref a ∧ H1 a = some (.ins C dx fs) ∧
  ∀ n E, sp n [x] H1 (fun r H2 => ∃ it d o kvs, r = .ref it ∧ H2 it = some (ItD d o kvs.length it) ∧ n ≤ it ∧ R (Itk d o kvs) (ItX.dropH H2 it)) E
theorem pi_ownD {X : Cx} {tg e : Expr} {te : TE} {C : Addr} {k : Nat} {sp : Nat → Sp} (D : IterS X.prog X.w X.K X.mg X.base C k sp) (hr : Room k X.A) (he : PE X e te) : PI X tg e (iOwnD C sp te) := by
  obtain ⟨f, M, F⟩ := D.ex
  refine ⟨fun pins s σ H R I h => ?_⟩
  refine thn (he.run pins s σ H _ I h) fun v s1 ⟨x, H1, I1, r1, a, dx, fs, ex, ea, q⟩ => ?_
  subst ex
  cases r1
  obtain ⟨ox, od, J⟩ := ins_at I1 ea
  obtain ⟨m, hF⟩ := I1.fr
  refine PySem.W.owit_iter hF I1.ok.mod.kin J M.at_ M.fn (wpAny_call (codeAny_mono (F.run X.A X.stack s1 H1 [.ref a] [.ref a] _ (fun _ _ _ => False) hr I1.env0 (.cons rfl .nil) (q s1.heap.objs.size _)) fun r s2 hq => ?_))
  cases r with
  | error e => exact pass_CX0 pins σ H1 s1 e s2 I1 hq
  | ok fl =>
    cases fl with
    | next => exact hq.elim
    | brk => exact hq.elim
    | cont => exact hq.elim
    | ret u =>
      obtain ⟨v, H2, I2, rv, it, d, o, kvs, rfl, hi, hn, qr⟩ := I1.after hq
      cases rv
      obtain ⟨es, ep, hdt, st⟩ := (I2.hok it _ hi).1
      refine wpAny_specialOf (name := Str.ofString "__next__") st.typeIs PySem.F.slot_dict_keyiterator_next.lookup ?_
      exact ⟨it, [it], _, _, ItX.dropH H2 it, rfl, ItX.inv_drop I2 hi, turn_keys it hdt, st, fun b hb => by
        rw [List.mem_singleton.mp hb]
        exact ItX.inv_fp I2 hi (Nat.le_trans I1.sz hn), qr⟩
end L2.RV
set_option Elab.async false
set_option linter.all false
set_option maxRecDepth 100000
set_option maxHeartbeats 4000000
/-! o.m(k = e, ..) -/
namespace L2.RV
open PySem PySem.Spec PyProof.Rows
structure MethKX (CX : CXT) (P : Program) (w : World) (K : PySem.W.Frag) (mg : Str → Option Value) (base : Heap) (C : Addr) (m : Str) (k : Nat) (ps ks : List Str) (sp : Sp) : Prop where
  ex : ∃ f fd, Meth K C m f ∧ Binds K fd ps [] ∧ FnOk P w K mg base CX k f fd ps sp ∧ KBn K fd ps 1 ks (fun us ws => us ++ ws) (fun us ws => us ++ ws)
def tMethK (C : Addr) (m : Str) (n : Nat) (sp : Sp) (E : XK) (ta : TE) (tk : TA) : TE := fun σ H Q => ta σ H fun x H1 => ∃ a dx fs, x = V.ref a ∧ H1 a = some (.ins C dx fs) ∧ fs.lookup m = none ∧ tk σ H1 fun zs H2 => zs.length = n ∧ sp (x :: zs) H2 Q E
section
variable {X : Cx} {CX : CXT} {C : Addr} {k : Nat} {ps ks : List Str} {sp : Sp} {E : XK} {m : Str} {apos pos : Pos} {o : Expr} {kws : List Keyword} {ta : TE} {tk : TA} {pl : Sem Bool}
theorem pe_mKX (D : MethKX CX X.prog X.w X.K X.mg X.base C m k ps ks sp) (c : Cls X.K C) (hr : Room k X.A) (hx : Passes CX X E) (he : PE X o ta) (hkw : PK X kws tk)
    (hall : (backToKw pos (keywordEach kws X.env)).all (·.1.isSome) = true := by rfl) (hks : (backToKw pos (keywordEach kws X.env)).filterMap (·.1) = ks := by rfl)
    (hpl : ((backTo pos (starEach [] X.env)).any (·.1) || (backToKw pos (keywordEach kws X.env)).any (·.1.isNone)) = false := by rfl)
    (ht : eval (.Call (.Attribute o m apos) [] kws pos) X.env = (do
      let ov ← eval o X.env
      standAt apos.atName
      let (f, first) ← holding [ov] (getMethod ov m pl)
      callWith pos f first (backTo pos (starEach [] X.env)) (backToKw pos (keywordEach kws X.env))) := by rfl) :
    PE X (.Call (.Attribute o m apos) [] kws pos) (tMethK C m ks.length sp E ta tk) := by
  obtain ⟨f, fd, hm, _, F, kb⟩ := D.ex
  refine ⟨fun pins s σ H Q I h => ?_⟩
  refine PySem.W.methodCall_KW (pl := pl) (thn (he.run pins s σ H _ I h) fun u s1 ⟨x, H1, I1, rx, a, dx, fs, ex, ea, l, q⟩ => ?_) ht
  subst ex
  obtain rfl : u = Value.ref a := rx
  refine getmeth_ok I1 ea c hm l ?_
  refine PySem.W.callWith_KW0 (h₀ := X.base) I1.ok.mod.kin hm.kp hall (thn (hkw.run pos pins s1 σ H1 _ I1 q) fun ws s2 ⟨zs, H2, I2, rz, lz, q2⟩ => ⟨I2.kIn, ?_⟩) hpl
  rw [hks]
  have r1 : Vals [V.ref a] [Value.ref a] := .cons rfl .nil
  refine wpAny_call (codeAny_mono (F.run X.A X.stack s2 H2 ⟨[.ref a], ks.zip ws⟩ ([.ref a] ++ ws) ([V.ref a] ++ zs) Q E hr I2.env0 (kb.to s2 [.ref a] ws I2.kIn rfl (by rw [← rz.length]; exact lz)) (kb.rel r1 rz) q2) fun r'' s' hq => ?_)
  cases r'' with
  | error e => exact hx pins σ H2 s2 e s' I2 hq
  | ok fl =>
    cases fl with
    | ret u => exact I2.after hq
    | next => exact False.elim hq
    | brk => exact False.elim hq
    | cont => exact False.elim hq
end
end L2.RV
set_option Elab.async false
set_option linter.all false
set_option maxRecDepth 100000
set_option maxHeartbeats 4000000
/-! bool(o) by an own __len__ where there is no __bool__; o <= p by an own __le__; o.m(k = e, ..) in the reverse order. -/
namespace L2.RV
open PySem PySem.Spec PyProof.Rows
section
variable {P : Program} {w : World} {A : Around} {E : Value → Shared → Prop} {s : Shared} {K : PySem.W.Frag} {x C f L : Addr} {h0 : Heap} {m : Str → Option Value} {ox : Obj} {od : Option Obj}
/-- what __len__ hands back, as a truth -/
def LenTruth (Q : Bool → Shared → Prop) (v : Value) (t : Shared) : Prop := match v with
  | .int n _ => (0 ≤ n ∧ n < 2 ^ 63) ∧ Q (n != 0) { t with toks := t.toks + 1 }
  | _ => False
theorem truthy_len {Q : Bool → Shared → Prop} (F : Fr h0 L s.heap m) (X : K.In h0) (I : PySem.W.InstAt s.heap x ox C od) (hb : PySem.W.findIn K (.ref C) "__bool__" = some none) (hs : PySem.W.findIn K (.ref C) "__len__" = some (some (.ref f))) (hf : PySem.W.isFn K (.ref f) = true)
    (h : wpAny (model P w) A.in1 (call (.ref f) [.ref x]) (LenTruth Q) E s) : wpAny (model P w) A (truthy (.ref x)) Q E s := by
  have Y := X.keeps F.keep
  have key : wpAny (model P w) A (runValue (.builtin "len" ⟨[.ref x], []⟩)) (fun r t => ∃ n u, r = .int n u ∧ Q (n != 0) t) E s := by
    refine wpAny_runValue (codeAny_builtin entry_len ?_)
    rw [Around.under_plainId plain_len _]
    unfold Builtin.«len»
    refine wpAny_bind (m := oneArg "len" _) (wpAny_pure ?_)
    refine wpAny_bind (m := callSpecial? (.ref x) (Str.ofString "__len__")) (PySem.W.special_fn Y I hs (beq_iff_eq.mp hf) (wpAny_mono h (fun r t z => ?_) fun _ _ z => z))
    cases r <;> first | exact z.elim | skip
    rename_i n u
    obtain ⟨⟨l0, l1⟩, q⟩ := z
    refine wpAny_bind (wpAny_holding (wpAny_pure ?_))
    refine wpAny_bind (wpAny_letGo ?_)
    show wpAny _ _ (if n < 0 then _ else _) _ _ _
    rw [if_neg (by omega)]
    show wpAny _ _ (if n ≥ 2 ^ 63 then _ else _) _ _ _
    rw [if_neg (by omega)]
    exact wpAny_bind (wpAny_mkInt (wpAny_pure ⟨n, _, rfl, q⟩))
  unfold truthy
  refine wpAny_bind (m := callSpecial? (.ref x) (Str.ofString "__bool__")) (wpAny_bind (wpAny_bind (I.type.here ((PySem.W.looks_findIn Y hb).here (wpAny_pure ?_)))))
  refine wpAny_bind (wpAny_bind (I.type.here ((PySem.W.looks_findIn Y hs).here ?_)))
  refine wpAny_bind (wpAny_mono key (fun r t z => ?_) fun _ _ z => z)
  obtain ⟨n, u, rfl, q⟩ := z
  exact wpAny_pure q
end
section
variable {X : Cx} {CX : CXT} {C : Addr} {k : Nat} {ps ks : List Str} {sp : Sp} {E : XK} {m : Str} {apos pos : Pos} {o : Expr} {kws : List Keyword} {ta : TE} {tk : TA} {pl : Sem Bool}
theorem call_boolLen (D : MethS CX X.prog X.w X.K X.mg X.base C "__len__" k ps sp) (hb : PySem.W.findIn X.K (.ref C) "__bool__" = some none) (hr : Room (k + 3) X.A) (hx : Passes CX X E) : CallR X (.type "bool") (rSelf C sp E fun Q r H' => ∃ n : Int, r = .int n ∧ (0 ≤ n ∧ n < 2 ^ 63) ∧ Q (.bl (n != 0)) H') := by
  obtain ⟨f, fd, M, fi, bd, F⟩ := D.ex
  intro pins s σ H xs us Q I r h
  obtain ⟨a, dx, fs, rfl, e, q⟩ := h
  obtain ⟨u, rfl, ru⟩ := vals1 r
  cases ru
  obtain ⟨ox, od, J⟩ := ins_at I e
  obtain ⟨n, hF⟩ := I.fr
  refine bool_any (truthy_len hF I.ok.mod.kin J hb M.at_ M.fn (thn (run_at (vs := [.ref a]) F bd hr.in1.in1.in1 rfl hx I (.cons rfl .nil) q) ?_))
  rintro r s1 ⟨z, H1, I1, rz, n, rfl, lim, q1⟩
  obtain ⟨t, rfl⟩ := rz
  exact ⟨lim, .bl (n != 0), H1, I1.tok _, rfl, q1⟩
/-- a <= y by the __le__ of a's class -/
theorem op_leO (D : MethS CX X.prog X.w X.K X.mg X.base C "__le__" k ps sp) (hr : Room k X.A) (hx : Passes CX X E) : OpR X (compareOp .LtE) (rEqO X.K C sp E) := by
  obtain ⟨f, fd, M, fi, bd, F⟩ := D.ex
  intro pins s σ H x y v u Q I rx ry h
  obtain ⟨a, dx, fs, t, rfl, e, ty, nf, q⟩ := h
  cases rx
  obtain ⟨ox, od, J⟩ := ins_at I e
  obtain ⟨m, hF⟩ := I.fr
  obtain ⟨P, kx, hP, _⟩ := kit_of I ry ty
  show wpAny (model X.prog X.w) X.A (richCompare .LtE (.ref a) u) (EP X pins σ Q) X.xe s
  refine PySem.W.cmp_K (op := .LtE) hr.units0 hF I.ok.mod.kin J (kx.ty _ _ I.kIn hP) nf M.at_ M.fn (thn (run_at (vs := [.ref a, y]) F bd hr rfl hx I (.cons rfl (.cons ry .nil)) q) ?_)
  rintro r s1 ⟨z, H1, I1, rz, q1⟩
  exact back_of I1 rz q1
theorem op_eqOK {K : PySem.W.Frag} (hK : X.K = K) (D : MethS CX X.prog X.w X.K X.mg X.base C "__eq__" k ps sp) (hr : Room k X.A) (hx : Passes CX X E) : OpR X (compareOp .Eq) (rEqO K C sp E) := hK ▸ op_eqO D hr hx
theorem op_neOK {K : PySem.W.Frag} (hK : X.K = K) (D : MethS CX X.prog X.w X.K X.mg X.base C "__eq__" k ps sp) (hm : PySem.W.mroIn X.K C (.type "object") = some true) (hn : PySem.W.findIn X.K (.ref C) "__ne__" = some (some (.builtin "object.__ne__"))) (hr : Room (k + 1) X.A) (hx : Passes CX X E) : OpR X (compareOp .NotEq) (rNeO K C sp E) := hK ▸ op_neO D hm hn hr hx
/-- C's method m, handed its arguments by keywords, in the reverse order -/
structure MethKR (CX : CXT) (P : Program) (w : World) (K : PySem.W.Frag) (mg : Str → Option Value) (base : Heap) (C : Addr) (m : Str) (k : Nat) (ps ks : List Str) (sp : Sp) : Prop where
  ex : ∃ f fd, Meth K C m f ∧ Binds K fd ps [] ∧ FnOk P w K mg base CX k f fd ps sp ∧ KBn K fd ps 1 ks (fun us ws => us ++ ws.reverse) (fun us ws => us ++ ws.reverse)
def tMethKR (C : Addr) (m : Str) (n : Nat) (sp : Sp) (E : XK) (ta : TE) (tk : TA) : TE := fun σ H Q => ta σ H fun x H1 => ∃ a dx fs, x = V.ref a ∧ H1 a = some (.ins C dx fs) ∧ fs.lookup m = none ∧ tk σ H1 fun zs H2 => zs.length = n ∧ sp (x :: zs.reverse) H2 Q E
theorem pe_mKR (D : MethKR CX X.prog X.w X.K X.mg X.base C m k ps ks sp) (c : Cls X.K C) (hr : Room k X.A) (hx : Passes CX X E) (he : PE X o ta) (hkw : PK X kws tk)
    (hall : (backToKw pos (keywordEach kws X.env)).all (·.1.isSome) = true := by rfl) (hks : (backToKw pos (keywordEach kws X.env)).filterMap (·.1) = ks := by rfl)
    (hpl : ((backTo pos (starEach [] X.env)).any (·.1) || (backToKw pos (keywordEach kws X.env)).any (·.1.isNone)) = false := by rfl)
    (ht : eval (.Call (.Attribute o m apos) [] kws pos) X.env = (do
      let ov ← eval o X.env
      standAt apos.atName
      let (f, first) ← holding [ov] (getMethod ov m pl)
      callWith pos f first (backTo pos (starEach [] X.env)) (backToKw pos (keywordEach kws X.env))) := by rfl) :
    PE X (.Call (.Attribute o m apos) [] kws pos) (tMethKR C m ks.length sp E ta tk) := by
  obtain ⟨f, fd, hm, _, F, kb⟩ := D.ex
  refine ⟨fun pins s σ H Q I h => ?_⟩
  refine PySem.W.methodCall_KW (pl := pl) (thn (he.run pins s σ H _ I h) fun u s1 ⟨x, H1, I1, rx, a, dx, fs, ex, ea, l, q⟩ => ?_) ht
  subst ex
  obtain rfl : u = Value.ref a := rx
  refine getmeth_ok I1 ea c hm l ?_
  refine PySem.W.callWith_KW0 (h₀ := X.base) I1.ok.mod.kin hm.kp hall (thn (hkw.run pos pins s1 σ H1 _ I1 q) fun ws s2 ⟨zs, H2, I2, rz, lz, q2⟩ => ⟨I2.kIn, ?_⟩) hpl
  rw [hks]
  have r1 : Vals [V.ref a] [Value.ref a] := .cons rfl .nil
  refine wpAny_call (codeAny_mono (F.run X.A X.stack s2 H2 ⟨[.ref a], ks.zip ws⟩ ([.ref a] ++ ws.reverse) ([V.ref a] ++ zs.reverse) Q E hr I2.env0 (kb.to s2 [.ref a] ws I2.kIn rfl (by rw [← rz.length]; exact lz)) (kb.rel r1 rz) q2) fun r'' s' hq => ?_)
  cases r'' with
  | error e => exact hx pins σ H2 s2 e s' I2 hq
  | ok fl =>
    cases fl with
    | ret u => exact I2.after hq
    | next => exact False.elim hq
    | brk => exact False.elim hq
    | cont => exact False.elim hq
end
end L2.RV
set_option Elab.async false
set_option linter.all false
set_option maxRecDepth 100000
set_option maxHeartbeats 4000000
/-! What a book holds; two books compared. -/
namespace L2.K20
open PySem PySem.Spec PyProof.Rows L2.RV
theorem Kp.lockK {H : Hp} {t : Addr} {kvs : List (L2.Key × V)} {od : Obj} (e : H t = some (.dK kvs)) : Kp0 H (upd H t (.frz od (.dK kvs))) := by
  have ne : ∀ {b o}, H b = some o → (∀ ks, o ≠ .dK ks) → b ≠ t := fun {b o} h n z => by
    rw [z, e] at h
    exact n kvs (Option.some.inj h).symm
  refine ⟨fun b o f h => (upd_ne (ne h fun ys z => by rw [z] at f; exact f)).trans h, fun b ks _ h => ?_, fun b ys h => ?_⟩
  · rcases h with h | ⟨o, h⟩
    · exact .inl ((upd_ne (ne h fun _ z => nomatch z)).trans h)
    · exact .inr ⟨o, (upd_ne (ne h fun _ z => nomatch z)).trans h⟩
  · rcases h with h | ⟨o, h⟩
    · exact .inl ((upd_ne (ne h fun _ z => nomatch z)).trans h)
    · exact .inr ⟨o, (upd_ne (ne h fun _ z => nomatch z)).trans h⟩
theorem HeldX.lockK {K : PySem.W.Frag} {H : Hp} {x f : Str} {a s b t : Addr} {kvs : List (L2.Key × V)} {od : Obj} {ws : List (Pl × Int)} (h : HeldX K H x f a s b ws) (e : H t = some (.dK kvs)) : HeldX K (upd H t (.frz od (.dK kvs))) x f a s b ws := by
  obtain ⟨dx, fs, e1, e2, e3, e4⟩ := h
  exact ⟨dx, fs, (upd_ne fun z => by rw [z, e] at e1; cases e1).trans e1, e2, e3, (upd_ne fun z => by rw [z, e] at e4; cases e4).trans e4⟩
theorem HeldX.same {K : PySem.W.Frag} {H H' : Hp} {x f : Str} {a s b : Addr} {ws : List (Pl × Int)} (h : HeldX K H x f a s b ws) (k : Same H H') : HeldX K H' x f a s b ws := by
  obtain ⟨dx, fs, e1, e2, e3, e4⟩ := h
  exact ⟨dx, fs, k _ _ e1, e2, e3, k _ _ e4⟩
/-- weights by names -/
abbrev WF := Str → List (Pl × Int)
/-- good weights of a question -/
structure WOk (ks : List Str) (d : Nat) (ws : List (Pl × Int)) : Prop where
  mem : ∀ z ∈ ws, z.1 ∈ placesOf ks d
  few : ws.length ≤ 36
  bits : Bits ws
  nd : (ws.map (·.1)).Nodup
/-- the book at x, its dict at t: the names ns in order, the weights of their questions -/
structure BookIs (K : PySem.W.Frag) (H : Hp) (x t s : Addr) (ks : List Str) (d : Nat) (ns : List Str) (wf : WF) : Prop where
  ex : ∃ dx es, BookC K H x dx s t es ∧ es.map (·.1) = ns ∧ ∀ z ∈ es, ∃ tq, HeldX K H "Question" "weights" z.2 s tq (wf z.1)
  nd : ns.Nodup
  so : sortedS ns = true
  few : ns.length ≤ 12
  good : ∀ n ∈ ns, n.length ≤ sizeLine ∧ isName n = true
  wok : ∀ n ∈ ns, WOk ks d (wf n)
theorem BookC.same {K : PySem.W.Frag} {H H' : Hp} {a dx s t : Addr} {es : BL} (c : BookC K H a dx s t es) (k : Same H H') : BookC K H' a dx s t es := c.kx (.of (E := fun _ => False) k)
theorem BookIs.same {K : PySem.W.Frag} {H H' : Hp} {x t s : Addr} {ks : List Str} {d : Nat} {ns : List Str} {wf : WF} (b : BookIs K H x t s ks d ns wf) (k : Same H H') : BookIs K H' x t s ks d ns wf := by
  obtain ⟨dx, es, c, e, q⟩ := b.ex
  exact ⟨⟨dx, es, c.same k, e, fun z hz => let ⟨tq, h⟩ := q z hz; ⟨tq, h.same k⟩⟩, b.nd, b.so, b.few, b.good, b.wok⟩
theorem BookIs.pen {K : PySem.W.Frag} {H H' : Hp} {x t s p : Addr} {xs : List V} {ks : List Str} {d : Nat} {ns : List Str} {wf : WF} (b : BookIs K H x t s ks d ns wf) (k : Keep p H H') (e : H p = some (.lst xs)) : BookIs K H' x t s ks d ns wf := by
  obtain ⟨dx, es, c, e1, q⟩ := b.ex
  have ne : ∀ {b o}, H b = some o → (∀ ys, o ≠ .lst ys) → b ≠ p := fun {b o} h n z => by
    rw [z, e] at h
    exact n xs (Option.some.inj h).symm
  refine ⟨⟨dx, es, c.kx (.pen (E := fun _ => False) k e), e1, fun z hz => ?_⟩, b.nd, b.so, b.few, b.good, b.wok⟩
  obtain ⟨tq, dy, fs, h1, h2, h3, h4⟩ := q z hz
  exact ⟨tq, dy, fs, k _ _ (ne h1 fun _ z => nomatch z) h1, h2, h3, k _ _ (ne h4 fun _ z => nomatch z) h4⟩
theorem BookIs.ok {K : PySem.W.Frag} {H : Hp} {x t s : Addr} {ks : List Str} {d : Nat} {ns : List Str} {wf : WF} {es : BL} (b : BookIs K H x t s ks d ns wf) (s0 : ShapeAt K H s ks d) (e : es.map (·.1) = ns) (q : ∀ z ∈ es, ∃ tq, HeldX K H "Question" "weights" z.2 s tq (wf z.1)) : BookOk K H ks d es := by
  refine ⟨by rw [e]; exact b.nd, ?_, fun z hz => ?_⟩
  · have := b.few
    rw [← e, List.length_map] at this
    omega
  · have m : z.1 ∈ ns := by rw [← e]; exact List.mem_map_of_mem hz
    obtain ⟨tq, h⟩ := q z hz
    exact ⟨(b.good _ m).1, (b.good _ m).2, s, ks, d, h.held.of, s0, shapeEq_self d s0.good⟩
theorem BookIs.ins {K : PySem.W.Frag} {H : Hp} {x t s : Addr} {ks : List Str} {d : Nat} {ns : List Str} {wf : WF} (b : BookIs K H x t s ks d ns wf) : ∃ dx fs, H x = some (.ins (He.ga K "Book") dx fs) := by
  obtain ⟨dx, es, c, _⟩ := b.ex
  exact ⟨_, _, c.obj⟩
/-- whether two books hold the same -/
def bkLe (ns : List Str) (wf : WF) (ms : List Str) (wg : WF) : Bool := ns.all fun n => ms.contains n && dtSame (plD (wf n)) (plD (wg n))
def bkSame (ns : List Str) (wf : WF) (ms : List Str) (wg : WF) : Bool := ns.length == ms.length && bkLe ns wf ms wg
theorem bat_has {es : BL} (n : Str) : (bat es n).isSome = (es.map (·.1)).contains n := by
  cases c : bat es n with
  | none =>
    have := bat_none.mp c
    simpa using this
  | some a =>
    have m := List.mem_map_of_mem (f := (·.1)) (bat_some c)
    simpa using m
/-- book == other, a book or something else -/
def spBookEq (K : PySem.W.Frag) : Sp := fun vs H Q _ => ∃ x y t s ks d ns wf, vs = [.ref x, y] ∧ BookIs K H x t s ks d ns wf ∧ ShapeAt K H s ks d ∧
  ((∃ u t' r ls e ms wg, y = .ref u ∧ BookIs K H u t' r ls e ms wg ∧ t ≠ t' ∧ ShapeAt K H r ls e ∧ Q (.bl (shapeEq ks d ls e && bkSame ns wf ms wg)) H) ∨
   (∃ u, TyX K H y u ∧ PySem.W.kitOne K u (.ref (He.ga K "Book")) = some false ∧ Q (.bl false) H))
/-- iter(book), its dict locked -/
def spBookIter (K : PySem.W.Frag) (n : Nat) : Sp := fun vs H Q _ => ∃ x dx s t es od, vs = [.ref x] ∧ H x = some (.ins (He.ga K "Book") dx [("shape", .ref s), ("_questions", .ref t)]) ∧ H t = some (.frz od (.dK (bD es))) ∧ ∀ it, H it = none → n ≤ it → Q (.ref it) (upd H it (ItD t od (bD es).length it))
/-- book <= other -/
def spBookLe (K : PySem.W.Frag) : Sp := fun vs H Q _ => ∃ x y t t' s ks d ns ms wf wg, vs = [.ref x, .ref y] ∧ BookIs K H x t s ks d ns wf ∧ BookIs K H y t' s ks d ms wg ∧ t ≠ t' ∧ ShapeAt K H s ks d ∧ ∀ H', Same H H' → Q (.bl (bkLe ns wf ms wg)) H'
section
variable {P : Program} {w : World} {K : PySem.W.Frag} {mg : Str → Option Value} {base : Heap} {fd : FuncData}
theorem ok_Book_iter (T : Top w K mg) {f : Addr} (F : FunD K "__iter__" "Book.__iter__" (defArgs s_Book_iter) (defBody s_Book_iter) (defScope s_Book_iter) [] [] f fd) (b : Binds K fd ["self"] []) : FnN P w K mg base 1 f (spBookIter K) := by
  refine FunD.okN F b sc_Book_iter (fun n vs H Q E h => ?_) (fun cdv A outer s H vs Q E hr h => ?_)
  · obtain ⟨x, dx, sa, t, es, od, rfl, _⟩ := h
    rfl
  · obtain ⟨x, dx, sa, t, es, od, rfl, hx, ht, k⟩ := h
    refine ⟨_, PSs.nox (pss_one (ps_ret (pe_callB call_iterD rfl T.n_iter (by decide +kernel) (pa_cons (pe_fldK (K := K) rfl (pv 0) rfl) pa_nil)))), ?_⟩
    exact ⟨_, rfl, x, _, dx, _, _, rfl, hx, T.k_Book, T.a_Book__questions, rfl, t, od, _, rfl, ht, fun it hn le => k it hn le⟩
theorem ok_Book_eq (T : Top w K mg) (S_Shape_eq : MethS CX0 P w K mg base (He.ga K "Shape") "__eq__" 2 ["self", "other"] (spShapeEq K)) (S_Question_eq : MethS CX0 P w K mg base (He.ga K "Question") "__eq__" 4 ["self", "other"] (spQEq K)) {f : Addr} (F : FunD K "__eq__" "Book.__eq__" (defArgs s_Book_eq) (defBody s_Book_eq) (defScope s_Book_eq) [] [] f fd) : FnOk P w K mg base CX0 6 f fd ["self", "other"] (spBookEq K) := by
  refine F.ok sc_Book_eq (fun vs H Q E h => ?_) (fun cdv A outer s H vs Q E hr h => ?_)
  · obtain ⟨x, y, t, s, ks, d, ns, wf, rfl, _⟩ := h
    rfl
  · obtain ⟨x, y, t, sa, ks, d, ns, wf, rfl, b1, s1, k⟩ := h
    have hu := hr.units
    obtain ⟨dx, es, c1, en, q1⟩ := b1.ex
    refine ⟨_, PSs.nox (pss_one (ps_ret (pe_and (pe_callB call_isi rfl T.n_isinstance (by decide +kernel) (pa_cons (pv 1) (pa_cons (pe_glob (v := .ref (He.ga K "Book")) rfl T.g_Book rfl) pa_nil))) (pe_and (pe_cmpR (op_eqO S_Shape_eq (hr.mono (by decide)) pass_CX0) (pe_fldK (K := K) rfl (pv 0) rfl) (pe_fldK (K := K) rfl (pv 1) rfl) (nomark _)) (pe_one (pe_cmpR (op_eqB (eqW_own S_Question_eq pass_CX0) (hr.mono (by decide))) (pe_fldK (K := K) rfl (pv 0) rfl) (pe_fldK (K := K) rfl (pv 1) rfl) (nomark _))))))), ?_⟩
    rcases k with ⟨u, t', r, ls, e, ms, wg, rfl, b2, nt, s2, k⟩ | ⟨u, ty, ki, k⟩
    · obtain ⟨dy, fs, c2, em, q2⟩ := b2.ex
      obtain ⟨ty, kt⟩ := ins_kit T.o_Book T.o_Book T.k_Book (show InsOf K H "Book" u from ⟨_, _, c2.obj⟩) (by decide)
      refine ⟨_, rfl, _, _, _, _, _, rfl, .own _, ty, kt, _, rfl, ?_⟩
      obtain ⟨ty2, _⟩ := ins_kit T.o_Shape T.o_Shape T.k_Shape s2.ins (by decide)
      obtain ⟨du, hs, e5⟩ := s1.ins
      refine ⟨_, rfl, x, _, dx, _, _, rfl, c1.obj, T.k_Book, T.a_Book_shape, rfl, _, rfl, u, _, dy, _, _, rfl, c2.obj, T.k_Book, T.a_Book_shape, rfl, sa, du, hs, _, rfl, e5, ty2, (T.o_Shape.kit "Shape" (by decide)).2, ?_⟩
      refine ⟨sa, r, ks, d, ls, e, rfl, s1, s2, _, rfl, ?_⟩
      cases hse : shapeEq ks d ls e with
      | false =>
        rw [hse, Bool.false_and] at k
        exact k
      | true =>
        rw [hse, Bool.true_and] at k
        refine ⟨_, rfl, x, _, dx, _, _, rfl, c1.obj, T.k_Book, T.a_Book__questions, rfl, _, rfl, u, _, dy, _, _, rfl, c2.obj, T.k_Book, T.a_Book__questions, rfl, ?_⟩
        refine ⟨t, t', bD es, bD fs, fun key _ _ => match key with | .inr n => dtSame (plD (wf n)) (plD (wg n)) | .inl _ => false, rfl, rfl, nt, c1.dic, c2.dic, fun oa ob key v v' m hv => ?_, ?_⟩
        · obtain ⟨z, hz, q⟩ := List.mem_map.mp m
          cases q
          rw [valV_bD] at hv
          obtain ⟨a', ha, rfl⟩ := Option.map_eq_some_iff.mp hv
          obtain ⟨tq, hq⟩ := q1 z hz
          obtain ⟨tr, hr'⟩ := q2 _ (bat_some ha)
          have e2 : (upd H t (.frz oa (.dK (bD es)))) t' = some (.dK (bD fs)) := (upd_ne (Ne.symm nt)).trans c2.dic
          have g1 := (hq.lockK (od := oa) c1.dic).lockK (od := ob) e2
          have g2 := (hr'.lockK (od := oa) c1.dic).lockK (od := ob) e2
          have kp := (Kp.lockK (od := oa) c1.dic).trans (Kp.lockK (od := ob) e2)
          obtain ⟨ty3, _⟩ := ins_kit T.o_Question T.o_Question T.k_Question g2.held.of.ins (by decide)
          obtain ⟨dq, hf, e6, _⟩ := id g1
          refine ⟨z.2, a', dq, hf, _, rfl, rfl, e6, ty3, (T.o_Question.kit "Question" (by decide)).2, fun ea => ?_, fun E' => ?_⟩
          · subst ea
            obtain ⟨d1, f1, h1, h2, h3, h4⟩ := hq
            obtain ⟨d2, f2, h5, h6, h7, h8⟩ := hr'
            rw [h1] at h5
            cases h5
            rw [h3] at h7
            cases h7
            rw [h4] at h8
            have eq : plD (wf z.1) = plD (wg z.1) := by injection h8 with h8; injection h8
            show dtSame (plD (wf z.1)) (plD (wg z.1)) = true
            rw [← eq]
            have m1 : z.1 ∈ ns := by rw [← en]; exact List.mem_map_of_mem hz
            exact dtSame_self (b1.wok _ m1).nd
          · refine ⟨z.2, .ref a', sa, ks, d, wf z.1, rfl, g1.held, s1.kp kp, .inl ⟨a', r, ls, e, wg z.1, rfl, g2.held, s2.kp kp, ⟨tq, tr, g1, g2⟩, ?_, rfl⟩⟩
            rw [hse, Bool.true_and]
        · have e7 : dkSame (fun key _ _ => match key with | .inr n => dtSame (plD (wf n)) (plD (wg n)) | .inl _ => false) (bD es) (bD fs) = bkSame ns wf ms wg := by
            unfold dkSame bkSame bkLe
            rw [bD_length, bD_length, ← en, ← em, List.length_map, List.length_map]
            unfold bD
            rw [List.all_map, List.all_map]
            refine congrArg _ (List.all_congr rfl fun z => ?_)
            show (match valV (bD fs) (Sum.inr z.1) with | none => false | some v => dtSame (plD (wf z.1)) (plD (wg z.1))) = _
            rw [valV_bD]
            have h := bat_has (es := fs) z.1
            show _ = ((fs.map (·.1)).contains z.1 && _)
            rw [← h]
            cases bat fs z.1 with
            | none => rfl
            | some a => simp
          rw [e7]
          exact k
    · refine ⟨_, rfl, _, _, _, _, _, rfl, .own _, ty, ki, _, rfl, ?_⟩
      exact k
theorem ok_Book_le (T : Top w K mg) (D_check_other_books : DefX (L2.CX P w) P w K mg base "check_other_books" 4 ["book", "other"] (spOther K "Book")) (S_Book_contains : MethS CX0 P w K mg base (He.ga K "Book") "__contains__" 1 ["self", "x"] (spBookHas K)) (S_Book_getitem : MethS (L2.CX P w) P w K mg base (He.ga K "Book") "__getitem__" 4 ["self", "at"] (spBookAt K)) (S_Question_eq : MethS CX0 P w K mg base (He.ga K "Question") "__eq__" 4 ["self", "other"] (spQEq K)) {f : Addr} (F : FunD K "__le__" "Book.__le__" (defArgs s_Book_le) (defBody s_Book_le) (defScope s_Book_le) [] [] f fd) : FnOk P w K mg base (L2.CX P w) 6 f fd ["self", "other"] (spBookLe K) := by
  refine F.ok sc_Book_le (fun vs H Q E h => ?_) (fun cdv A outer s H vs Q E hr h => ?_)
  · obtain ⟨x, y, t, t', s, ks, d, ns, ms, wf, wg, rfl, _⟩ := h
    rfl
  · obtain ⟨x, y, t, t', sa, ks, d, ns, ms, wf, wg, rfl, b1, b2, nt, s1, k⟩ := h
    have hu := hr.units
    obtain ⟨dx, es, c1, en, q1⟩ := b1.ex
    obtain ⟨dy, fs, c2, em, q2⟩ := b2.ex
    refine ⟨_, (pss_cons (ps_expr (pe_callX D_check_other_books (hr.mono (by decide)) rfl pass_E0 (pa_cons (pv 0) (pa_cons (pv 1) pa_nil))))
      (pss_one (ps_ret (pe_callB (cr_all rfl) rfl T.n_all (by decide +kernel) (pa_cons (pe_lock (pe_lc (own := [("name", 2)]) (g := gName 2) (tt := tYes) (by rfl) sc_Book_le.nd (pi_keys (pe_fldK (K := K) rfl (pv 0) rfl)) (blkOk_by (own := [("name", 2)]) (N := ["self", "other", "name"]) (sc := defScope s_Book_le) (by decide +kernel)) (fun _ _ _ _ _ => by exact (pg_name (i := 2) sc_Book_le.nd rfl (by first | exact Or.inl rfl | exact Or.inr rfl))) (fun _ _ _ _ _ => by exact pts_nil) (fun _ _ _ _ _ => by exact (pe_and (pe_cmpR (op_inO S_Book_contains (hr.mono (by decide)) pass_CX0) (pv 2) (pv 1) rfl) (pe_one (pe_cmpR (op_eqOK (K := K) rfl S_Question_eq (hr.mono (by decide)) pass_CX0) (pe_ixO S_Book_getitem (hr.mono (by decide)) pass_E0 (pv 0) (pv 2)) (pe_ixO S_Book_getitem (hr.mono (by decide)) pass_E0 (pv 1) (pv 2)) (nomark _))))))) pa_nil))))), ?_⟩
    refine ⟨_, rfl, _, rfl, x, y, sa, sa, ks, d, ks, d, rfl, c1.of, c2.of, s1, s1, shapeEq_self d s1.good, ?_⟩
    with_reducible refine retU ?_
    refine cb1U ?_
    have nx : x ≠ t := fun z => by have := c1.obj; rw [z, c1.dic] at this; cases this
    have ny : y ≠ t := fun z => by have := c2.obj; rw [z, c1.dic] at this; cases this
    refine lc_keysK (fun _ => true) (fun key => .bl (match key with | .inr n => ms.contains n && dtSame (plD (wf n)) (plD (wg n)) | .inl _ => false)) c1.dic (by rw [bD_length]; have := (b1.ok s1 en q1).few; omega) (by show 2 < 3; decide) (fun od R r => ?_) (fun od key v _ H3 Q' _ q => q) (fun od key v m _ H1 Q' sm q => ?_) (fun D H1 sm nD eD => ?_)
    · exact ⟨_, rfl, x, _, dx, _, _, rfl, (upd_ne nx).trans c1.obj, T.k_Book, T.a_Book__questions, rfl, r⟩
    · obtain ⟨z, hz, ez⟩ := List.mem_map.mp m
      cases ez
      have kp := (Kp.lockK (od := od) c1.dic).trans (Kp.of (E := fun _ => False) sm)
      have o1 := sm _ _ ((upd_ne nx).trans c1.obj)
      have o2 := sm _ _ ((upd_ne ny).trans c2.obj)
      have f2 : Rd H1 t' (.dK (bD fs)) := .inl (sm _ _ ((upd_ne (Ne.symm nt)).trans c2.dic))
      refine ⟨_, rfl, _, rfl, y, dy, _, rfl, o2, y, dy, sa, t', fs, _, rfl, ⟨o2, f2⟩, .inl ⟨z.1, rfl, _, rfl, _, rfl, ?_⟩⟩
      have h := bat_has (es := fs) z.1
      rw [em] at h
      cases c : bat fs z.1 with
      | none =>
        rw [c] at h
        have h2 : ms.contains z.1 = false := h.symm
        dsimp only at q
        rw [h2, Bool.false_and] at q
        exact q
      | some a' =>
        rw [c] at h
        have h2 : ms.contains z.1 = true := h.symm
        dsimp only at q
        rw [h2, Bool.true_and] at q
        obtain ⟨tq, hq⟩ := q1 z hz
        obtain ⟨tr, hr'⟩ := q2 _ (bat_some c)
        have g1 := (hq.lockK (od := od) c1.dic).same sm
        have g2 := (hr'.lockK (od := od) c1.dic).same sm
        refine ⟨_, rfl, _, rfl, x, dx, _, rfl, o1, x, dx, sa, t, es, z.1, z.2, rfl, ⟨o1, .inr ⟨od, sm _ _ upd_same⟩⟩, bat_mem (by rw [en]; exact b1.nd) hz, _, rfl, _, rfl, y, dy, _, rfl, o2, y, dy, sa, t', fs, z.1, a', rfl, ⟨o2, f2⟩, c, ?_⟩
        obtain ⟨ty3, _⟩ := ins_kit T.o_Question T.o_Question T.k_Question g2.held.of.ins (by decide)
        obtain ⟨dq, hf, e6, _⟩ := id g1
        refine ⟨z.2, dq, hf, _, rfl, e6, ty3, (T.o_Question.kit "Question" (by decide)).2, z.2, .ref a', sa, ks, d, wf z.1, rfl, g1.held, s1.kp kp, .inl ⟨a', sa, ks, d, wg z.1, rfl, g2.held, s1.kp kp, ⟨tq, tr, g1, g2⟩, ?_⟩⟩
        rw [shapeEq_self d s1.good, Bool.true_and]
        exact q
    · rw [filt_all] at eD
      refine ⟨D, ((bD es).map (·.1)).map fun key => (match key with | .inr n => ms.contains n && dtSame (plD (wf n)) (plD (wg n)) | .inl _ => false), rfl, .inl (.inl (eD.trans (by simp only [List.map_map]; rfl))), ?_⟩
      have e9 : (((bD es).map (·.1)).map fun (key : L2.Key) => (match key with | .inr n => ms.contains n && dtSame (plD (wf n)) (plD (wg n)) | .inl _ => false)).all id = bkLe ns wf ms wg := by
        unfold bkLe bD
        rw [← en, List.map_map, List.map_map, List.all_map, List.all_map]
        rfl
      rw [e9]
      exact k _ sm
end
end L2.K20
set_option Elab.async false
set_option linter.all false
set_option maxRecDepth 100000
set_option maxHeartbeats 4000000
/-! The comprehensions of RvBk and RvBk2 over whatever walks the keys of a locked dict. -/
namespace L2.RV
open PySem PySem.Spec PyProof.Rows
theorem lc_keysO {ti : TI} {te : TE} {tt : TT} {j : Nat} {σ : L2.St} {H : Hp} {Q : VK} {t : Addr} {kvs : List (L2.Key × V)} (p : L2.Key → Bool) (f : L2.Key → V) (e : H t = some (.dK kvs)) (small : kvs.length ≤ 1000) (hj : j < σ.length)
    (hi : ∀ od (R : It → Hp → Prop), R (Itk t od kvs) (upd H t (.frz od (.dK kvs))) → ti σ (upd H t (.frz od (.dK kvs))) R)
    (ht : ∀ (od : Obj) (key : L2.Key) (v : V), (key, v) ∈ kvs → ∀ (H1 : Hp) (Q' : Bool → Hp → Prop), Same (upd H t (.frz od (.dK kvs))) H1 → Q' (p key) H1 → tt ((wipe σ [j]).set j (some (kV key))) H1 Q')
    (hv : ∀ (od : Obj) (key : L2.Key) (v : V), (key, v) ∈ kvs → p key = true → ∀ (H1 : Hp) (Q' : VK), Same (upd H t (.frz od (.dK kvs))) H1 → Q' (f key) H1 → te ((wipe σ [j]).set j (some (kV key))) H1 Q')
    (k : ∀ D H', Same H H' → H D = none → H' D = some (.lst (((kvs.map (·.1)).filter p).map f)) → Q (.ref D) H') {vs : List Nat} (evs : vs = [j] := by rfl) : tLockE (tLc ti (gName j) tt te vs) σ H Q := by
  subst evs
  refine ⟨t, .dK kvs, e, True.intro, fun od => ?_⟩
  refine hi od _ (fun D hD => ?_)
  refine lc_it walk_keys (fun i H' => H' D = some (.lst ((((kvs.take i).map (·.1)).filter p).map f)) ∧ Same (upd H t (.frz od (.dK kvs))) H') ⟨upd_same, same_new hD⟩ (fun i H' _ e => e.2 _ _ upd_same) (fun i x H2 H3 lt e y => ?_) (fun H' e => ?_)
  · obtain ⟨hDl, sm⟩ := e
    obtain ⟨rfl, key, v, hkv, rfl⟩ := y
    have mk : (key, v) ∈ kvs := List.mem_of_getElem? hkv
    have et : (kvs.take (i + 1)).map (·.1) = (kvs.take i).map (·.1) ++ [key] := by rw [take_snoc hkv, List.map_append]; rfl
    refine ⟨wipe_set1 σ j _, ht od key v mk _ _ sm ?_⟩
    cases c : p key with
    | false =>
      rw [if_neg (by decide), et, List.filter_append, List.filter_cons_of_neg (by rw [c]; decide), List.filter_nil, List.append_nil]
      exact ⟨hDl, sm⟩
    | true =>
      rw [if_pos rfl]
      refine hv od key v mk c _ _ sm ⟨_, hDl, ?_, ?_, fun b o eb => ?_⟩
      · have z := List.length_filter_le p ((kvs.take i).map (·.1))
        rw [List.length_map, List.length_take] at z
        rw [List.length_map, sizeLine_eq]
        omega
      · rw [upd_same, et, List.filter_append, List.filter_cons_of_pos c, List.filter_nil, List.map_append]
        rfl
      · exact (upd_ne (ne_of_none eb hD)).trans (sm _ _ eb)
  · obtain ⟨hDl, sm⟩ := e
    rw [List.take_length] at hDl
    obtain ⟨n, fr⟩ := unlock_free hD
    exact ⟨sm _ _ upd_same, k D _ (unlock_same e sm) fr ((upd_ne n).trans hDl)⟩
theorem lc_pairsO {ti : TI} {te : TE} {tt : TT} {j : Nat} {σ : L2.St} {H : Hp} {Q : VK} {t : Addr} {kvs : List (L2.Key × V)} (p : L2.Key → Bool) (f : L2.Key → V → V) (e : H t = some (.dK kvs)) (small : kvs.length ≤ 1000) (hj : j < σ.length)
    (hi : ∀ od (R : It → Hp → Prop), R (Itk t od kvs) (upd H t (.frz od (.dK kvs))) → ti σ (upd H t (.frz od (.dK kvs))) R)
    (ht : ∀ (od : Obj) (key : L2.Key) (v : V), (key, v) ∈ kvs → ∀ (H1 : Hp) (Q' : Bool → Hp → Prop), Same (upd H t (.frz od (.dK kvs))) H1 → Q' (p key) H1 → tt ((wipe σ [j]).set j (some (kV key))) H1 Q')
    (hv : ∀ (od : Obj) (key : L2.Key) (v : V), (key, v) ∈ kvs → p key = true → ∀ (H1 : Hp) (Q' : VK), Same (upd H t (.frz od (.dK kvs))) H1 → Q' (f key v) H1 → te ((wipe σ [j]).set j (some (kV key))) H1 Q')
    (k : ∀ D qs H', Same H H' → H D = none → H' D = some (.lst (qs.map V.ref)) → Paired (PairK H') qs ((kvs.filter fun kv => p kv.1).map fun kv => (kv.1, f kv.1 kv.2)) → Q (.ref D) H') {vs : List Nat} (evs : vs = [j] := by rfl) : tLockE (tLc ti (gName j) tt (tTup (tCons (tVar j) (tCons te tNil))) vs) σ H Q := by
  subst evs
  refine ⟨t, .dK kvs, e, True.intro, fun od => ?_⟩
  refine hi od _ (fun D hD => ?_)
  refine lc_it walk_keys (fun i H' => ∃ qs : List Addr, H' D = some (.lst (qs.map V.ref)) ∧ Paired (PairK H') qs (((kvs.take i).filter fun kv => p kv.1).map fun kv => (kv.1, f kv.1 kv.2)) ∧ Same (upd H t (.frz od (.dK kvs))) H') ⟨[], upd_same, .nil, same_new hD⟩ (fun i H' _ e => by obtain ⟨_, _, _, sm⟩ := e; exact sm _ _ upd_same) (fun i x H2 H3 lt e y => ?_) (fun H' e => ?_)
  · obtain ⟨qs, hDl, pr, sm⟩ := e
    obtain ⟨rfl, key, v, hkv, rfl⟩ := y
    have mk : (key, v) ∈ kvs := List.mem_of_getElem? hkv
    have lq := pr.length
    have lw : j < (wipe σ [j]).length := by rw [wipe_length]; exact hj
    have et : kvs.take (i + 1) = kvs.take i ++ [(key, v)] := take_snoc hkv
    refine ⟨wipe_set1 σ j _, ht od key v mk _ _ sm ?_⟩
    cases c : p key with
    | false =>
      rw [if_neg (by decide), et, List.filter_append, List.filter_cons_of_neg (by show ¬ (p key = true); rw [c]; decide), List.filter_nil, List.append_nil]
      exact ⟨qs, hDl, pr, sm⟩
    | true =>
      rw [if_pos rfl]
      refine ⟨kV key, List.getElem?_set_self lw, hv od key v mk c _ _ sm ⟨by show 2 ≤ sizeLine; decide, fun q nq => ?_⟩⟩
      have nD : D ≠ q := fun z => by rw [z, nq] at hDl; cases hDl
      refine ⟨_, (upd_ne nD).trans hDl, ?_, qs ++ [q], ?_, ?_, fun c' o ec => ?_⟩
      · have z := List.length_filter_le (fun kv : L2.Key × V => p kv.1) (kvs.take i)
        rw [List.length_map] at lq
        rw [List.length_take] at z
        rw [List.length_map, lq, sizeLine_eq]
        omega
      · rw [upd_same, List.map_append]
        rfl
      · rw [et, List.filter_append, List.filter_cons_of_pos (p := fun kv : L2.Key × V => p kv.1) (a := (key, v)) c, List.filter_nil, List.map_append, List.map_cons, List.map_nil]
        have up : ∀ {c : Addr} {xs : List V}, H3 c = some (.tup xs) → (upd (upd H3 q (.tup [kV key, f key v])) D (.lst (qs.map V.ref ++ [V.ref q]))) c = some (.tup xs) := fun {c xs} e => by
          have n1 : c ≠ D := fun z => by rw [z, hDl] at e; cases e
          have n2 : c ≠ q := fun z => by rw [z, nq] at e; cases e
          exact (upd_ne n1).trans ((upd_ne n2).trans e)
        exact Paired.snoc (Paired.mapP pr fun u v z => up z) ((upd_ne (Ne.symm nD)).trans upd_same)
      · have n1 : c' ≠ D := ne_of_none ec hD
        have n2 : c' ≠ q := fun z => by
          have := sm _ _ ec
          rw [z, nq] at this
          cases this
        exact (upd_ne n1).trans ((upd_ne n2).trans (sm _ _ ec))
  · obtain ⟨qs, hDl, pr, sm⟩ := e
    rw [List.take_length] at pr
    obtain ⟨n, fr⟩ := unlock_free hD
    refine ⟨sm _ _ upd_same, k D qs _ (unlock_same e sm) fr ((upd_ne n).trans hDl) (Paired.mapP pr fun u v z => ?_)⟩
    have nt : u ≠ t := fun q => by
      have := sm _ _ (upd_same (a := t))
      rw [← q] at this
      unfold PairK at z
      rw [this] at z
      cases z
    exact (upd_ne nt).trans z
end L2.RV
set_option Elab.async false
set_option linter.all false
set_option maxRecDepth 100000
set_option maxHeartbeats 4000000
/-! Two books put together. -/
namespace L2.K20
open PySem PySem.Spec PyProof.Rows L2.RV
theorem unfrz {H : Hp} {t : Addr} {u : HO} {od : Obj} (e : H t = some u) : upd (upd H t (.frz od u)) t u = H := by
  funext b
  by_cases h : b = t
  · rw [h, upd_same, e]
  · rw [upd_ne h, upd_ne h]
theorem lstStarU {K : PySem.W.Frag} {te : TE} {t : TA} {σ : L2.St} {H : Hp} {Q : VK} (h : te σ H fun x H1 => ∃ p xs, x = V.ref p ∧ (SqT K H1 p xs ∨ SqL K H1 p xs) ∧ t σ H1 fun ys H2 => (xs ++ ys).length ≤ sizeLine ∧ ∀ p, H2 p = none → p ≠ sysModules → Q (.ref p) (upd H2 p (.lst (xs ++ ys)))) : tLstN (StX.tStar K te t) σ H Q := h
theorem paired_app {α β : Type} {R : α → β → Prop} : ∀ {xs : List α} {ys : List β} {us : List α} {vs : List β}, Paired R xs ys → Paired R us vs → Paired R (xs ++ us) (ys ++ vs)
  | _, _, _, _, .nil, p => p
  | _, _, _, _, .cons h r, p => .cons h (paired_app r p)
theorem Rd.lockB {H : Hp} {t t' : Addr} {ks ls : List (L2.Key × V)} {od : Obj} (e : H t = some (.dK ks)) (e' : H t' = some (.dK ls)) : Rd (upd H t (.frz od (.dK ks))) t' (.dK ls) := by
  by_cases h : t' = t
  · subst h
    rw [e] at e'
    cases e'
    exact .inr ⟨od, upd_same⟩
  · exact .inl ((upd_ne h).trans e')
/-- for name in book, its dict locked -/
theorem book_walk {K : PySem.W.Frag} {H : Hp} {x dx s t : Addr} {es : BL} {ti : TE} {σ : L2.St} (c : BookC K H x dx s t es) (od : Obj) (R : It → Hp → Prop) (hi : ∀ Q : V → Hp → Prop, Q (.ref x) (upd H t (.frz od (.dK (bD es)))) → ti σ (upd H t (.frz od (.dK (bD es)))) Q) (r : R (Itk t od (bD es)) (upd H t (.frz od (.dK (bD es))))) :
    iOwnD (He.ga K "Book") (spBookIter K) ti σ (upd H t (.frz od (.dK (bD es)))) R := by
  have nx : x ≠ t := fun z => by have := c.obj; rw [z, c.dic] at this; cases this
  refine hi _ ⟨x, dx, _, rfl, (upd_ne nx).trans c.obj, fun n E => ⟨x, dx, s, t, es, od, rfl, (upd_ne nx).trans c.obj, upd_same, fun it hn le => ⟨it, t, od, bD es, rfl, upd_same, le, ?_⟩⟩⟩
  rw [ItX.dropH_upd hn]
  exact r
/-- book | other, of the same shape, that agree on what both hold -/
def spBookOr (K : PySem.W.Frag) : Sp := fun vs H Q _ => ∃ x y t t' s ks d ns ms wf wg, vs = [.ref x, .ref y] ∧ BookIs K H x t s ks d ns wf ∧ BookIs K H y t' s ks d ms wg ∧ ShapeAt K H s ks d ∧ (∀ n ∈ ns, n ∈ ms → dtSame (plD (wf n)) (plD (wg n)) = true) ∧ ns.length + ms.length ≤ 12 ∧
  ∀ H' z t2 ls, Same H H' → H t2 = none → ls.Perm (ns ++ ms.filter fun n => !ns.contains n) → BookIs K H' z t2 s ks d ls (fun n => if ns.contains n = true then wf n else wg n) → Q (.ref z) H'
section
variable {P : Program} {w : World} {K : PySem.W.Frag} {mg : Str → Option Value} {base : Heap} {fd : FuncData}
theorem ok_Book_or (T : Top w K mg) (D_check_other_books : DefX (L2.CX P w) P w K mg base "check_other_books" 4 ["book", "other"] (spOther K "Book")) (S_Book_contains : MethS CX0 P w K mg base (He.ga K "Book") "__contains__" 1 ["self", "x"] (spBookHas K)) (S_Book_getitem : MethS (L2.CX P w) P w K mg base (He.ga K "Book") "__getitem__" 4 ["self", "at"] (spBookAt K)) (S_Question_eq : MethS CX0 P w K mg base (He.ga K "Question") "__eq__" 4 ["self", "other"] (spQEq K)) (I_Book : IterS P w K mg base (He.ga K "Book") 1 (spBookIter K)) (R_Taken : RzX P w K mg base "Taken" (ca K 15) ["name"]) (C_Book : MakeR (L2.CX P w) P w K mg base "Book" (He.ga K "Book") 6 (spBook K)) {f : Addr} (F : FunD K "__or__" "Book.__or__" (defArgs s_Book_or) (defBody s_Book_or) (defScope s_Book_or) [] [] f fd) : FnOk P w K mg base (L2.CX P w) 8 f fd ["self", "other"] (spBookOr K) := by
  refine F.ok sc_Book_or (fun vs H Q E h => ?_) (fun cdv A outer s H vs Q E hr h => ?_)
  · obtain ⟨x, y, t, t', s, ks, d, ns, ms, wf, wg, rfl, _⟩ := h
    rfl
  · obtain ⟨x, y, t, t', sa, ks, d, ns, ms, wf, wg, rfl, b1, b2, s1, agree, few, k⟩ := h
    have hu := hr.units
    obtain ⟨dx, es, c1, en, q1⟩ := b1.ex
    obtain ⟨dy, fs, c2, em, q2⟩ := b2.ex
    have le1 : es.length = ns.length := by rw [← en, List.length_map]
    have le2 : fs.length = ms.length := by rw [← em, List.length_map]
    have nx : x ≠ t := fun z => by have := c1.obj; rw [z, c1.dic] at this; cases this
    have ny : y ≠ t := fun z => by have := c2.obj; rw [z, c1.dic] at this; cases this
    have nx' : x ≠ t' := fun z => by have := c1.obj; rw [z, c2.dic] at this; cases this
    have ny' : y ≠ t' := fun z => by have := c2.obj; rw [z, c2.dic] at this; cases this
    refine ⟨_, (pss_cons (ps_expr (pe_callX D_check_other_books (hr.mono (by decide)) rfl pass_E0 (pa_cons (pv 0) (pa_cons (pv 1) pa_nil))))
      (pss_cons (ps_lock (ps_for (passes_of rfl) rfl (pi_keys (pe_fldK (K := K) rfl (pv 0) rfl)) (pg_name (i := 2) sc_Book_or.nd rfl (by first | exact Or.inl rfl | exact Or.inr rfl)) (pss_one (ps_if (PW.pt (pw_and (pt_cmpR (op_inO S_Book_contains (hr.mono (by decide)) pass_CX0) (pv 2) (pv 1) rfl) (pw_and1 (pt_cmpR (op_neO S_Question_eq T.o_Question.obj T.o_Question.ne (hr.mono (by decide)) pass_CX0) (pe_ixO S_Book_getitem (hr.mono (by decide)) pass_E0 (pv 0) (pv 2)) (pe_ixO S_Book_getitem (hr.mono (by decide)) pass_E0 (pv 1) (pv 2)) (nomark _))))) (pss_one (ps_rz R_Taken rfl (hr.mono (by decide)) (takes_of rfl rfl rfl rfl) rfl (pa_cons (pv 2) pa_nil))) pss_nil))))
      (pss_cons (ps_lock (ps_setLc (i := 3) (own := [("name", 2)]) (g := gName 2) (by rfl) sc_Book_or.nd rfl rfl (sw_true rfl rfl rfl (by decide +kernel)) (pi_ownD I_Book (hr.mono (by decide)) (pv 1)) (blkOk_by (own := [("name", 2)]) (N := ["self", "other", "name", "more", "pairs"]) (sc := defScope s_Book_or) (by decide +kernel)) (fun _ _ _ _ _ => by exact (pg_name (i := 2) sc_Book_or.nd rfl (by first | exact Or.inl rfl | exact Or.inr rfl))) (fun _ _ _ _ _ => by exact (pts_one (pt_cmpR (op_notInO S_Book_contains (hr.mono (by decide)) pass_CX0) (pv 2) (pv 0) rfl))) (fun _ _ _ _ _ => by exact (pe_tup (pa_cons (pv 2) (pa_cons (pe_ixO S_Book_getitem (hr.mono (by decide)) pass_E0 (pv 1) (pv 2)) pa_nil))))))
      (pss_cons (ps_set (i := 4) sc_Book_or.nd rfl (by first | exact Or.inl rfl | exact Or.inr rfl) (pe_lstN (StX.pa_star (pe_lock (pe_lc (own := [("name", 2)]) (g := gName 2) (tt := tYes) (by rfl) sc_Book_or.nd (pi_keys (pe_fldK (K := K) rfl (pv 0) rfl)) (blkOk_by (own := [("name", 2)]) (N := ["self", "other", "name", "more", "pairs"]) (sc := defScope s_Book_or) (by decide +kernel)) (fun _ _ _ _ _ => by exact (pg_name (i := 2) sc_Book_or.nd rfl (by first | exact Or.inl rfl | exact Or.inr rfl))) (fun _ _ _ _ _ => by exact pts_nil) (fun _ _ _ _ _ => by exact (pe_tup (pa_cons (pv 2) (pa_cons (pe_ixO S_Book_getitem (hr.mono (by decide)) pass_E0 (pv 0) (pv 2)) pa_nil)))))) (StX.pa_star (pv 3) pa_nil))))
      (pss_one (ps_ret (pe_mkRS C_Book (hr.mono (by decide)) rfl pass_E0 (pa_cons (pe_fldK (K := K) rfl (pv 0) rfl) (StX.pa_star (pv 4) pa_nil))))))))), ?_⟩
    refine ⟨_, rfl, _, rfl, x, y, sa, sa, ks, d, ks, d, rfl, c1.of, c2.of, s1, s1, shapeEq_self d s1.good, ?_⟩
    with_reducible refine seqU ?_
    refine ⟨t, .dK (bD es), c1.dic, True.intro, fun od => ?_⟩
    refine ⟨_, rfl, x, _, dx, _, _, rfl, (upd_ne nx).trans c1.obj, T.k_Book, T.a_Book__questions, rfl, t, od, rfl, .inl ⟨bD es, upd_same, ?_⟩⟩
    refine for_it walk_keys (fun i σ' H' => ∃ c, σ' = [some (.ref x), some (.ref y), c, none, none] ∧ H' = upd H t (.frz od (.dK (bD es)))) ⟨none, rfl, rfl⟩ (fun i σ' H' _ q => ?_) (fun i x' σ' H1 H2 hi q yl => ?_) (fun σ' H1 q => ?_)
    · obtain ⟨_, _, rfl⟩ := q
      exact upd_same
    · obtain ⟨c0, rfl, rfl⟩ := q
      obtain ⟨rfl, key, v, hkv, rfl⟩ := yl
      obtain ⟨z, hz, ez⟩ := List.mem_map.mp (List.mem_of_getElem? hkv)
      cases ez
      have m1 : z.1 ∈ ns := by rw [← en]; exact List.mem_map_of_mem hz
      have o1 : (upd H t (.frz od (.dK (bD es)))) x = _ := (upd_ne nx).trans c1.obj
      have o2 : (upd H t (.frz od (.dK (bD es)))) y = _ := (upd_ne ny).trans c2.obj
      have f2 : Rd (upd H t (.frz od (.dK (bD es)))) t' (.dK (bD fs)) := Rd.lockB c1.dic c2.dic
      have kp := Kp.lockK (od := od) c1.dic
      refine gnU ?_
      refine ⟨_, rfl, _, rfl, y, dy, _, rfl, o2, y, dy, sa, t', fs, _, rfl, ⟨o2, f2⟩, .inl ⟨z.1, rfl, _, rfl, _, rfl, ?_⟩⟩
      cases c : bat fs z.1 with
      | none => exact ⟨_, rfl, rfl⟩
      | some a' =>
        obtain ⟨tq, hq⟩ := q1 z hz
        obtain ⟨tr, hr'⟩ := q2 _ (bat_some c)
        have g1 := hq.lockK (od := od) c1.dic
        have g2 := hr'.lockK (od := od) c1.dic
        have m2 : z.1 ∈ ms := by rw [← em]; exact List.mem_map_of_mem (f := (·.1)) (bat_some c)
        refine ⟨_, rfl, _, rfl, x, dx, _, rfl, o1, x, dx, sa, t, es, z.1, z.2, rfl, ⟨o1, .inr ⟨od, upd_same⟩⟩, bat_mem (by rw [en]; exact b1.nd) hz, _, rfl, _, rfl, y, dy, _, rfl, o2, y, dy, sa, t', fs, z.1, a', rfl, ⟨o2, f2⟩, c, ?_⟩
        obtain ⟨ty3, _⟩ := ins_kit T.o_Question T.o_Question T.k_Question g2.held.of.ins (by decide)
        obtain ⟨dq, hf, e6, _⟩ := id g1
        refine ⟨z.2, dq, hf, _, rfl, e6, ty3, (T.o_Question.kit "Question" (by decide)).2, z.2, .ref a', sa, ks, d, wf z.1, rfl, g1.held, s1.kp kp, .inl ⟨a', sa, ks, d, wg z.1, rfl, g2.held, s1.kp kp, ⟨tq, tr, g1, g2⟩, _, rfl, ?_⟩⟩
        rw [shapeEq_self d s1.good, Bool.true_and, agree _ m1 m2]
        exact ⟨_, rfl, ite2 (fun c => absurd c (by decide)) fun _ => ⟨_, rfl, rfl⟩⟩
    · obtain ⟨c0, rfl, rfl⟩ := q
      refine ⟨upd_same, ?_⟩
      rw [unfrz c1.dic]
      -- what the other has more
      with_reducible refine nxsU ?_
      with_reducible refine seqU ?_
      with_reducible refine lockSetU ?_
      have nm : ∀ {gs : BL} {key v}, (key, v) ∈ bD gs → ∃ z ∈ gs, key = Sum.inr z.1 ∧ v = V.ref z.2 := fun {gs key v} m => by
        obtain ⟨z, hz, q⟩ := List.mem_map.mp m
        cases q
        exact ⟨z, hz, rfl, rfl⟩
      refine lc_pairsO (fun key => match key with | .inr n => !ns.contains n | .inl _ => false) (fun _ v => v) c2.dic (by rw [bD_length, le2]; omega) (by show 2 < 5; decide) (fun od R r => book_walk c2 od R (fun Q q => ⟨_, rfl, q⟩) r) (fun od key v m H1 Q' sm q => ?_) (fun od key v m pk H1 Q' sm q => ?_) (fun D qs H1 sm nD eD pr => ?_)
      · obtain ⟨z, hz, rfl, rfl⟩ := nm m
        have o1 := sm _ _ ((upd_ne nx').trans c1.obj)
        have f1 : Rd H1 t (.dK (bD es)) := Rd.keep (Rd.lockB (od := od) c2.dic c1.dic) (sm _)
        refine ⟨_, rfl, _, rfl, x, dx, _, rfl, o1, x, dx, sa, t, es, _, rfl, ⟨o1, f1⟩, .inl ⟨z.1, rfl, _, rfl, _, rfl, ?_⟩⟩
        have h := bat_has (es := es) z.1
        rw [en] at h
        rw [h]
        dsimp only at q
        cases c : ns.contains z.1 with
        | false => rw [c] at q; exact q
        | true => rw [c] at q; exact q
      · obtain ⟨z, hz, rfl, rfl⟩ := nm m
        have o2 := sm _ _ ((upd_ne ny').trans c2.obj)
        exact ⟨_, rfl, _, rfl, y, dy, _, rfl, o2, y, dy, sa, t', fs, z.1, z.2, rfl, ⟨o2, .inr ⟨od, sm _ _ upd_same⟩⟩, bat_mem (by rw [em]; exact b2.nd) hz, q⟩
      have fl : ((bD fs).filter fun kv => match kv.1 with | .inr n => !ns.contains n | .inl _ => false) = bD (fs.filter fun z => !ns.contains z.1) := by
        unfold bD
        rw [List.filter_map]
        rfl
      rw [fl, List.map_id'] at pr
      have es' : ([some (.ref x), some (.ref y), c0, none, none].set 3 (some (V.ref D)) : L2.St) = [some (.ref x), some (.ref y), c0, some (.ref D), none] := rfl
      rw [es']
      with_reducible refine setsU ?_
      with_reducible refine lstStarU ?_
      have d1 := sm _ _ c1.dic
      refine lc_pairsK (fun _ => true) (fun _ v => v) d1 (by rw [bD_length, le1]; omega) (by show 2 < 5; decide) (fun od R r => ?_) (fun od key v m H2 Q' _ q => q) (fun od key v m pk H2 Q' sm2 q => ?_) (fun D2 qs2 H2 sm2 nD2 eD2 pr2 => ?_)
      · exact ⟨_, rfl, x, _, dx, _, _, rfl, (upd_ne nx).trans (sm _ _ c1.obj), T.k_Book, T.a_Book__questions, rfl, r⟩
      · obtain ⟨z, hz, rfl, rfl⟩ := nm m
        have o1 := sm2 _ _ ((upd_ne nx).trans (sm _ _ c1.obj))
        exact ⟨_, rfl, _, rfl, x, dx, _, rfl, o1, x, dx, sa, t, es, z.1, z.2, rfl, ⟨o1, .inr ⟨od, sm2 _ _ upd_same⟩⟩, bat_mem (by rw [en]; exact b1.nd) hz, q⟩
      rw [filt_all, List.map_id'] at pr2
      have lq := pr.length
      have lq2 := pr2.length
      have lf := List.length_filter_le (fun z : Str × Addr => !ns.contains z.1) fs
      rw [bD_length] at lq lq2
      refine ⟨D2, _, rfl, .inr (SqL.of eD2), ?_⟩
      refine ⟨_, rfl, D, _, rfl, .inr (SqL.of (sm2 _ _ eD)), ?_⟩
      dsimp only [tNil]
      rw [List.append_nil, ← List.map_append]
      refine ⟨by rw [List.length_map, List.length_append, lq, lq2, sizeLine_eq]; omega, fun L hL _ => ?_⟩
      have s3 := sm.trans (sm2.trans (same_new (o := .lst ((qs2 ++ qs).map V.ref)) hL))
      have pk : Paired (PairK (upd H2 L (.lst ((qs2 ++ qs).map V.ref)))) (qs2 ++ qs) (bD (es ++ fs.filter fun z => !ns.contains z.1)) := by
        have e1 : bD (es ++ fs.filter fun z => !ns.contains z.1) = bD es ++ bD (fs.filter fun z => !ns.contains z.1) := by unfold bD; rw [List.map_append]
        rw [e1]
        exact paired_app (Paired.mapP pr2 fun u v z => same_new hL _ _ z) (Paired.mapP pr fun u v z => same_new hL _ _ (sm2 _ _ z))
      have eL : (upd H2 L (.lst ((qs2 ++ qs).map V.ref))) L = some (.lst ((qs2 ++ qs).map V.ref)) := upd_same
      generalize upd H2 L (.lst ((qs2 ++ qs).map V.ref)) = H3 at s3 pk eL ⊢
      show tRet _ _ [some (.ref x), some (.ref y), c0, some (.ref D), some (.ref L)] H3
      with_reducible refine retU ?_
      refine ⟨_, rfl, x, _, dx, _, _, rfl, s3 _ _ c1.obj, T.k_Book, T.a_Book_shape, rfl, _, rfl, L, _, rfl, .inr (SqL.of eL), ?_⟩
      intro x' dx' hx' hdx' ne
      rw [List.append_nil]
      have sM := made_mid (o := .ins (He.ga K "Book") dx' []) hx' hdx'
      have sA := s3.trans sM
      have ekeys : (es ++ fs.filter fun z => !ns.contains z.1).map (·.1) = ns ++ ms.filter fun n => !ns.contains n := by
        rw [List.map_append, en, ← em, List.filter_map]
        rfl
      have ndk : (ns ++ ms.filter fun n => !ns.contains n).Nodup := by
        refine List.nodup_append.mpr ⟨b1.nd, b2.nd.sublist List.filter_sublist, fun a ha b hb e => ?_⟩
        subst e
        have := (List.mem_filter.mp hb).2
        simp [ha] at this
      have each : ∀ z ∈ es ++ fs.filter fun z => !ns.contains z.1, (z.1.length ≤ sizeLine ∧ isName z.1 = true) ∧ WOk ks d (if ns.contains z.1 = true then wf z.1 else wg z.1) ∧ ∃ tq, HeldX K H "Question" "weights" z.2 sa tq (if ns.contains z.1 = true then wf z.1 else wg z.1) := fun z hz => by
        rcases List.mem_append.mp hz with hz | hz
        · have m1 : z.1 ∈ ns := by rw [← en]; exact List.mem_map_of_mem hz
          rw [if_pos (by simpa using m1)]
          exact ⟨b1.good _ m1, b1.wok _ m1, q1 z hz⟩
        · obtain ⟨hz, hn⟩ := List.mem_filter.mp hz
          have m2 : z.1 ∈ ms := by rw [← em]; exact List.mem_map_of_mem hz
          rw [if_neg (by simpa using hn)]
          exact ⟨b2.good _ m2, b2.wok _ m2, q2 z hz⟩
      have lk := pk.length
      rw [bD_length] at lk
      refine ⟨x', dx', sa, ks, d, qs2 ++ qs, es ++ fs.filter fun z => !ns.contains z.1, rfl, upd_same, (upd_ne ne).trans upd_same, s1.kp (.of sA), lk, fun i b z hb hz => ?_, by rw [ekeys]; exact ndk, ?_, fun H4 t2 gs k3 ht pm so bc => ⟨rfl, ?_⟩⟩
      · have he : (bD (es ++ fs.filter fun z => !ns.contains z.1))[i]? = some (Sum.inr z.1, V.ref z.2) := by
          unfold bD
          rw [List.getElem?_map, hz]
          rfl
        obtain ⟨⟨g1, g2⟩, _, tq, hq⟩ := each z (List.mem_of_getElem? hz)
        exact ⟨sM _ _ (paired_at pk hb he), g1, g2, sa, ks, d, (hq.same sA).held.of, s1.kp (.of sA), shapeEq_self d s1.good⟩
      · rw [List.length_append]
        omega
      · have s4 := s3.trans (made_same hx' hdx' k3)
        have pm2 := pm.map (·.1)
        rw [ekeys] at pm2
        refine k H4 x' t2 (gs.map (·.1)) s4 (s3.free (sM.free ht)) pm2 ⟨⟨dx', gs, bc, rfl, fun z hz => ?_⟩, pm2.nodup_iff.mpr ndk, so, ?_, fun n hn => ?_, fun n hn => ?_⟩
        · obtain ⟨_, _, tq, hq⟩ := each z (pm.mem_iff.mp hz)
          exact ⟨tq, hq.same s4⟩
        · have := pm2.length_eq
          rw [this, List.length_append]
          have := List.length_filter_le (fun n => !ns.contains n) ms
          omega
        · obtain ⟨z, hz, rfl⟩ := List.mem_map.mp hn
          exact (each z (pm.mem_iff.mp hz)).1
        · obtain ⟨z, hz, rfl⟩ := List.mem_map.mp hn
          exact (each z (pm.mem_iff.mp hz)).2.1
end
end L2.K20
set_option Elab.async false
set_option linter.all false
set_option maxRecDepth 100000
set_option maxHeartbeats 4000000
/-! A book's text. -/
namespace L2.K20
open PySem PySem.Spec PyProof.Rows L2.RV
/-- str(book) -/
def spBookStr (K : PySem.W.Frag) : Sp := fun vs H Q _ => ∃ x t s ks d ns wf, vs = [.ref x] ∧ BookIs K H x t s ks d ns wf ∧ ShapeAt K H s ks d ∧ ∀ H' y, Same H H' → Q (.str y) H'
theorem dkSame_nil (f : L2.Key → V → V → Bool) (ks : List (L2.Key × V)) : dkSame f ks [] = ks.isEmpty := by
  cases ks with
  | nil => rfl
  | cons z r => rfl
section
variable {P : Program} {w : World} {K : PySem.W.Frag} {mg : Str → Option Value} {base : Heap} {fd : FuncData}
theorem ok_Book_str (T : Top w K mg) (S_Question_eq : MethS CX0 P w K mg base (He.ga K "Question") "__eq__" 4 ["self", "other"] (spQEq K)) (S_Question_str : MethS CX0 P w K mg base (He.ga K "Question") "__str__" 6 ["self"] (spQStr K)) {f : Addr} (F : FunD K "__str__" "Book.__str__" (defArgs s_Book_str) (defBody s_Book_str) (defScope s_Book_str) [] [] f fd) : FnOk P w K mg base CX0 10 f fd ["self"] (spBookStr K) := by
  refine F.ok sc_Book_str (fun vs H Q E h => ?_) (fun cdv A outer s H vs Q E hr h => ?_)
  · obtain ⟨x, t, s, ks, d, ns, wf, rfl, _⟩ := h
    rfl
  · obtain ⟨x, t, sa, ks, d, ns, wf, rfl, b1, s0, k⟩ := h
    have hu := hr.units
    obtain ⟨dx, es, c1, en, q1⟩ := b1.ex
    have le1 : es.length = ns.length := by rw [← en, List.length_map]
    have few := b1.few
    refine ⟨_, PSs.nox (pss_cons (ps_if (pt_cmpR (op_eqB (eqW_own S_Question_eq pass_CX0) (hr.mono (by decide))) (pe_fldK (K := K) rfl (pv 0) rfl) pe_dnewK (nomark _)) (pss_one (ps_ret pe_str)) pss_nil)
      (pss_one (ps_ret (pe_bm PySem.F.plainAttrs_str PySem.F.slot_str_join PySem.F.type_str_join mt_join pe_str (pa_cons (pe_lock (pe_lc (own := [("name", 1)]) (g := gName 1) (tt := tYes) (by rfl) sc_Book_str.nd (pi_keys (pe_fldK (K := K) rfl (pv 0) rfl)) (blkOk_by (own := [("name", 1)]) (N := ["self", "name"]) (sc := defScope s_Book_str) (by decide +kernel)) (fun _ _ _ _ _ => by exact (pg_name (i := 1) sc_Book_str.nd rfl (by first | exact Or.inl rfl | exact Or.inr rfl))) (fun _ _ _ _ _ => by exact pts_nil) (fun _ _ _ _ _ => by exact (pe_fs (.cons (pe_fmt (pv 1)) (.cons pe_str (.cons (pe_fmt (pe_callTy (call_strO S_Question_str (hr.mono (by decide)) pass_CX0) rfl T.n_str (by decide +kernel) (pa_cons (pe_dget (Nat.lt_of_le_of_lt (Nat.add_le_add_left (by decide) _) hu) (pe_fldK (K := K) rfl (pv 0) rfl) (pv 1) (fun _ _ => rfl)) pa_nil))) .nil))))))) pa_nil))))), ?_⟩
    refine ⟨_, rfl, x, _, dx, _, _, rfl, c1.obj, T.k_Book, T.a_Book__questions, rfl, fun Z hZ => ?_⟩
    have sZ := same_new (o := .dK []) hZ
    have nZ : t ≠ Z := fun z => by have := c1.dic; rw [z, hZ] at this; cases this
    refine ⟨t, Z, bD es, [], fun _ _ _ => false, rfl, rfl, nZ, sZ _ _ c1.dic, upd_same, (fun _ _ _ _ _ _ z => by rw [valV_nil] at z; cases z), _, rfl, ?_⟩
    refine ite2 (fun c => k _ _ sZ) (fun c => ?_)
    have cz := c1.same sZ
    have sz := s0.kp (.of sZ)
    have qz : ∀ z ∈ es, ∃ tq, HeldX K (upd H Z (.dK [])) "Question" "weights" z.2 sa tq (wf z.1) := fun z hz => let ⟨tq, h⟩ := q1 z hz; ⟨tq, h.same sZ⟩
    have k1 : ∀ H' y, Same (upd H Z (.dK [])) H' → Q (.str y) H' := fun H' y s => k H' y (sZ.trans s)
    generalize upd H Z (.dK []) = H1 at cz sz qz k1 ⊢
    clear sZ nZ hZ c1 s0 q1 k
    with_reducible refine nxU ?_
    with_reducible refine retU ?_
    refine ⟨rfl, ?_⟩
    have nx : x ≠ t := fun z => by have := cz.obj; rw [z, cz.dic] at this; cases this
    refine ⟨t, .dK (bD es), cz.dic, True.intro, fun od => ?_⟩
    refine ⟨_, rfl, x, _, dx, _, _, rfl, (upd_ne nx).trans cz.obj, T.k_Book, T.a_Book__questions, rfl, t, od, rfl, .inl ⟨bD es, upd_same, fun D hD => ?_⟩⟩
    refine lc_it walk_keys (fun i H' => (∃ ys : List Str, H' D = some (.lst (ys.map V.str)) ∧ ys.length = i ∧ ∀ y ∈ ys, y.length ≤ 190020) ∧ Same (upd H1 t (.frz od (.dK (bD es)))) H') ⟨⟨[], upd_same, rfl, fun _ h => absurd h List.not_mem_nil⟩, same_new hD⟩ (fun i H' _ e => e.2 _ _ upd_same) (fun i v H2 H3 lt e y => ?_) (fun H' e => ?_)
    · obtain ⟨⟨ys, hDl, ly, by_⟩, sm⟩ := e
      obtain ⟨rfl, key, u, hkv, rfl⟩ := y
      obtain ⟨z, hz, ez⟩ := List.mem_map.mp (List.mem_of_getElem? hkv)
      cases ez
      have m1 : z.1 ∈ ns := by rw [← en]; exact List.mem_map_of_mem hz
      have l8 : z.1.length ≤ 8 := (name_ok (b1.good _ m1).2).2
      obtain ⟨tq, hq⟩ := qz z hz
      have g1 := (hq.lockK (od := od) cz.dic).same sm
      have o1 := sm _ _ ((upd_ne nx).trans cz.obj)
      have kp := (Kp.lockK (od := od) cz.dic).trans (Kp.of (E := fun _ => False) sm)
      rw [bD_length] at lt
      refine ⟨rfl, ?_⟩
      with_reducible refine yesU ?_
      refine ⟨_, rfl, .inl ⟨z.1, rfl, by rw [sizeLine_eq]; omega, z.1, rfl, ?_, _, rfl, ?_, ?_⟩⟩
      · rw [len_app, sizeLine_eq]
        show 0 + z.1.length ≤ 16777216
        omega
      · rw [len_app, len_app, sizeLine_eq]
        show 0 + z.1.length + 3 ≤ 16777216
        omega
      have vb : valV (bD es) (Sum.inr z.1) = some (.ref z.2) := by
        rw [valV_bD, bat_mem (by rw [en]; exact b1.nd) hz]
        rfl
      refine ⟨_, rfl, x, _, dx, _, _, rfl, o1, T.k_Book, T.a_Book__questions, rfl, _, rfl, t, .ref z.2, rfl, .inl ⟨_, Sum.inr z.1, .inr ⟨od, sm _ _ upd_same⟩, rfl, vb.symm⟩, ?_⟩
      obtain ⟨dq, hf, e6, _⟩ := id g1
      have wo := b1.wok _ m1
      refine ⟨z.2, dq, hf, rfl, e6, z.2, sa, tq, ks, d, wf z.1, rfl, g1, sz.kp kp, wo.mem, wo.few, wo.bits, fun H4 y s4 ly4 => ⟨y, rfl, .inl ⟨y, rfl, by rw [sizeLine_eq]; omega, y, rfl, ?_, ys.map V.str, s4 _ _ hDl, ?_, ⟨ys ++ [Str.empty ++ z.1 ++ Str.ofString " : " ++ y], ?_, ?_, fun w hw => ?_⟩, fun c' o ec => ?_⟩⟩⟩
      · rw [len_app, len_app, len_app, sizeLine_eq]
        show 0 + z.1.length + 3 + y.length ≤ 16777216
        omega
      · rw [List.length_map, ly, sizeLine_eq]
        omega
      · rw [upd_same, List.map_append]
        rfl
      · rw [List.length_append, ly]
        rfl
      · rcases List.mem_append.mp hw with h | h
        · exact by_ w h
        · rw [List.mem_singleton.mp h, len_app, len_app, len_app]
          show 0 + z.1.length + 3 + y.length ≤ 190020
          omega
      · have nc : c' ≠ D := ne_of_none ec hD
        exact (upd_ne nc).trans (s4 _ _ (sm _ _ ec))
    · obtain ⟨⟨ys, hDl, ly, by_⟩, sm⟩ := e
      refine ⟨sm _ _ upd_same, ?_⟩
      have nDt : D ≠ t := fun z => by rw [z, upd_same] at hD; cases hD
      have sum : ∀ zs : List Str, (∀ y ∈ zs, y.length ≤ 190020) → (zs.map (·.length)).sum ≤ 190020 * zs.length := by
        intro zs
        induction zs with
        | nil => intro _; exact Nat.le_refl _
        | cons y r ih =>
          intro h
          have a := h y List.mem_cons_self
          have b := ih fun x hx => h x (List.mem_cons_of_mem _ hx)
          rw [List.map_cons, List.sum_cons, List.length_cons]
          omega
      have z := sum ys by_
      rw [bD_length] at ly
      refine ⟨_, D, ys, rfl, rfl, .inl (SqL.of ((upd_ne nDt).trans hDl)), ?_, k1 _ _ (fun b o ob => ?_)⟩
      · show _ + ys.length * 3 ≤ 16777216
        omega
      · by_cases n : b = t
        · subst n
          rw [upd_same, ← cz.dic, ob]
        · exact (upd_ne n).trans (sm _ _ ((upd_ne n).trans ob))
end
end L2.K20
set_option Elab.async false
set_option linter.all false
set_option maxRecDepth 100000
set_option maxHeartbeats 4000000
/-! The law's entries, and the book that is made of them. -/
namespace L2.K20
open PySem PySem.Spec PyProof.Rows L2.RV
def entNames : List Str := ["q", "a", "zz", "total", "abcdefgh", "new"]
/-- entries at t: names and, in dicts of their own, the weights of their questions -/
structure EntIs (H : Hp) (t : Addr) (ks : List Str) (d : Nat) (ns : List Str) (wf : WF) : Prop where
  ex : ∃ es, H t = some (.dK (bD es)) ∧ es.map (·.1) = ns ∧ ∀ z ∈ es, H z.2 = some (.dT (plD (wf z.1)))
  nd : ns.Nodup
  names : ∀ n ∈ ns, n ∈ entNames
  wts : ∀ n ∈ ns, Wts ks d (wf n)
theorem EntIs.same {H H' : Hp} {t : Addr} {ks : List Str} {d : Nat} {ns : List Str} {wf : WF} (e : EntIs H t ks d ns wf) (k : Same H H') : EntIs H' t ks d ns wf := by
  obtain ⟨es, e1, e2, e3⟩ := e.ex
  exact ⟨⟨es, k _ _ e1, e2, fun z hz => k _ _ (e3 z hz)⟩, e.nd, e.names, e.wts⟩
theorem EntIs.pen {H H' : Hp} {t p : Addr} {xs : List V} {ks : List Str} {d : Nat} {ns : List Str} {wf : WF} (e : EntIs H t ks d ns wf) (k : Keep p H H') (hp : H p = some (.lst xs)) : EntIs H' t ks d ns wf := by
  obtain ⟨es, e1, e2, e3⟩ := e.ex
  have ne : ∀ {b o}, H b = some o → (∀ ys, o ≠ .lst ys) → b ≠ p := fun {b o} h n z => by
    rw [z, hp] at h
    exact n xs (Option.some.inj h).symm
  exact ⟨⟨es, k _ _ (ne e1 fun _ z => nomatch z) e1, e2, fun z hz => k _ _ (ne (e3 z hz) fun _ z => nomatch z) (e3 z hz)⟩, e.nd, e.names, e.wts⟩
theorem nodup_len : ∀ {xs ys : List Str}, xs.Nodup → (∀ x ∈ xs, x ∈ ys) → xs.length ≤ ys.length
  | [], _, _, _ => Nat.zero_le _
  | x :: xs, ys, nd, h => by
    have m := h x List.mem_cons_self
    have z := nodup_len (xs := xs) (ys := ys.erase x) (List.nodup_cons.mp nd).2 fun y hy => (List.mem_erase_of_ne fun q => (List.nodup_cons.mp nd).1 (by rw [← q]; exact hy)).mpr (h y (List.mem_cons_of_mem _ hy))
    have l := List.length_erase_of_mem m
    have pos : 0 < ys.length := List.length_pos_of_mem m
    rw [List.length_cons]
    omega
theorem EntIs.few {H : Hp} {t : Addr} {ks : List Str} {d : Nat} {ns : List Str} {wf : WF} (e : EntIs H t ks d ns wf) : ns.length ≤ 6 := by
  exact nodup_len e.nd e.names
theorem ent_good {n : Str} (h : n ∈ entNames) : n.length ≤ sizeLine ∧ isName n = true := by
  have g : ∀ n ∈ entNames, n.length ≤ 8 ∧ isName n = true := by decide +kernel
  refine ⟨Nat.le_trans (g n h).1 ?_, (g n h).2⟩
  rw [sizeLine_eq]
  omega
/-- _law_entries(pen, shape, most) -/
def spEntries (K : PySem.W.Frag) : Sp := fun vs H Q _ => ∃ (p l : Addr) (ns : List Int) (a r m : Int) (s : Addr) (ks : List Str) (d : Nat), vs = [.ref p, .ref s, .int m] ∧ PenAt H p l ns a r ∧ a ≤ 80000 ∧ 0 ≤ m ∧ m ≤ 4 ∧ ShapeAt K H s ks d ∧
  ∀ H' a' r' t ms wf, Keep p H H' → PenAt H' p l ns a' r' → a' ≤ a + 600 → H t = none → EntIs H' t ks d ms wf → ("new" : Str) ∉ ms → Q (.ref t) H'
/-- _law_book(shape, entries) -/
def spLBook (K : PySem.W.Frag) : Sp := fun vs H Q _ => ∃ s t ks d ns wf, vs = [.ref s, .ref t] ∧ ShapeAt K H s ks d ∧ EntIs H t ks d ns wf ∧
  ∀ H' x t' ls, Same H H' → H t' = none → ls.Perm ns → BookIs K H' x t' s ks d ls (fun n => bare ks d (wf n)) → Q (.ref x) H'
theorem bD_map (es : BL) (n : Str) (a : Addr) (h : n ∈ es.map (·.1)) : putK (bD es) (Sum.inr n) (V.ref a) = bD (es.map fun z => if z.1 = n then (z.1, a) else z) := by
  unfold putK
  have e : ((bD es).any fun kv => decide (kv.1 = (Sum.inr n : L2.Key))) = true := by
    obtain ⟨z, hz, rfl⟩ := List.mem_map.mp h
    refine List.any_eq_true.mpr ⟨(Sum.inr z.1, V.ref z.2), List.mem_map.mpr ⟨z, hz, rfl⟩, decide_eq_true rfl⟩
  rw [if_pos e]
  unfold bD
  rw [List.map_map, List.map_map]
  refine List.map_congr_left fun z _ => ?_
  show (if (Sum.inr z.1 : L2.Key) = Sum.inr n then (Sum.inr z.1, V.ref a) else (Sum.inr z.1, V.ref z.2)) = _
  by_cases c : z.1 = n
  · rw [if_pos (by rw [c])]
    show _ = (Sum.inr (if z.1 = n then (z.1, a) else z).1, V.ref (if z.1 = n then (z.1, a) else z).2)
    rw [if_pos c]
  · rw [if_neg fun q => c (Sum.inr.inj q)]
    show _ = (Sum.inr (if z.1 = n then (z.1, a) else z).1, V.ref (if z.1 = n then (z.1, a) else z).2)
    rw [if_neg c]
/-- what stands at one more name -/
theorem ent_put {H H' : Hp} {t a : Addr} {ks : List Str} {d : Nat} {ns : List Str} {wf : WF} {n : Str} {ws : List (Pl × Int)} {es : BL} (e1 : H t = some (.dK (bD es))) (e2 : es.map (·.1) = ns) (e3 : ∀ z ∈ es, H z.2 = some (.dT (plD (wf z.1)))) (nd : ns.Nodup) (names : ∀ n ∈ ns, n ∈ entNames) (wts : ∀ n ∈ ns, Wts ks d (wf n))
    (hn : n ∈ entNames) (w : Wts ks d ws) (ha : H a = some (.dT (plD ws))) (h' : H' = upd H t (.dK (putK (bD es) (Sum.inr n) (V.ref a)))) : ∃ ms, EntIs H' t ks d ms (fun m => if m = n then ws else wf m) ∧ ms.Perm (if n ∈ ns then ns else ns ++ [n]) := by
  subst h'
  have nt : ∀ {b o}, H b = some o → (∀ kvs, o ≠ .dK kvs) → b ≠ t := fun {b o} h n z => by
    rw [z, e1] at h
    exact n _ (Option.some.inj h).symm
  by_cases c : n ∈ ns
  · rw [if_pos c]
    have ek : (es.map fun z => if z.1 = n then (z.1, a) else z).map (·.1) = ns := by
      rw [List.map_map, ← e2]
      refine List.map_congr_left fun z _ => ?_
      show (if z.1 = n then (z.1, a) else z).1 = z.1
      split <;> rfl
    refine ⟨ns, ⟨⟨_, upd_same.trans (by rw [bD_map es n a (by rw [e2]; exact c)]), ek, fun y hy => ?_⟩, nd, names, fun m hm => ?_⟩, .refl _⟩
    · obtain ⟨z, hz, rfl⟩ := List.mem_map.mp hy
      by_cases q : z.1 = n
      · rw [if_pos q]
        show _ = some (HO.dT (plD (if z.1 = n then ws else wf z.1)))
        rw [if_pos q]
        exact (upd_ne (nt ha fun _ z => nomatch z)).trans ha
      · rw [if_neg q, if_neg q]
        exact (upd_ne (nt (e3 z hz) fun _ z => nomatch z)).trans (e3 z hz)
    · show Wts ks d (if m = n then ws else wf m)
      split
      · exact w
      · exact wts m hm
  · rw [if_neg c]
    have b0 : bat es n = none := bat_none.mpr (by rw [e2]; exact c)
    refine ⟨ns ++ [n], ⟨⟨es ++ [(n, a)], upd_same.trans (by rw [putK_bD (z := (n, a)) b0]), by rw [List.map_append, e2]; rfl, fun z hz => ?_⟩, ?_, fun m hm => ?_, fun m hm => ?_⟩, .refl _⟩
    · rcases List.mem_append.mp hz with hz | hz
      · have : z.1 ≠ n := fun q => c (by rw [← e2, ← q]; exact List.mem_map_of_mem hz)
        rw [if_neg this]
        exact (upd_ne (nt (e3 z hz) fun _ z => nomatch z)).trans (e3 z hz)
      · rw [List.mem_singleton.mp hz]
        rw [if_pos rfl]
        exact (upd_ne (nt ha fun _ z => nomatch z)).trans ha
    · refine List.nodup_append.mpr ⟨nd, List.nodup_cons.mpr ⟨List.not_mem_nil, List.nodup_nil⟩, fun x hx y hy q => ?_⟩
      rw [q, List.mem_singleton.mp hy] at hx
      exact c hx
    · rcases List.mem_append.mp hm with hm | hm
      · exact names m hm
      · rw [List.mem_singleton.mp hm]; exact hn
    · show Wts ks d (if m = n then ws else wf m)
      split
      · exact w
      · rename_i q
        rcases List.mem_append.mp hm with hm | hm
        · exact wts m hm
        · exact absurd (List.mem_singleton.mp hm) q
section
variable {P : Program} {w : World} {K : PySem.W.Frag} {mg : Str → Option Value} {base : Heap} {fd : FuncData}
theorem ok_law_entries (T : Top w K mg) (D_law_draw : Def P w K mg base "_law_draw" 1 ["_law_pen_here", "_law_many"] spDraw) (D_law_pick : Def P w K mg base "_law_pick" 2 ["_law_pen_here", "_law_some_here"] spPick) (D_law_weights : Def P w K mg base "_law_weights" 3 ["_law_pen_here", "_law_shape_here"] (spLWeights K)) (F : Fn K "_law_entries" s_law_entries fd) : FnOk P w K mg base CX0 4 (He.ga K "_law_entries") fd ["_law_pen_here", "_law_shape_here", "_law_most"] (spEntries K) := by
  refine F.ok sc_law_entries (fun vs H Q E h => ?_) (fun cdv A outer s H vs Q E hr h => ?_)
  · obtain ⟨p, l, ns, a, r, m, sa, ks, d, rfl, _⟩ := h
    rfl
  · obtain ⟨p, l, ns, a, r, m, sa, ks, d, rfl, pen, ha, m0, m4, s0, k⟩ := h
    have hu := hr.units
    refine ⟨_, PSs.nox (pss_cons (ps_set (i := 3) sc_law_entries.nd rfl (by first | exact Or.inl rfl | exact Or.inr rfl) pe_dnewK)
      (pss_cons (ps_for PassesOwn.never rfl (pi_range1 rfl T.n_range (pa_cons (pe_callD D_law_draw (hr.mono (by decide)) rfl (pa_cons (pv 0) (pa_cons (pe_op op_plus (pv 2) pe_int) pa_nil))) pa_nil)) (pg_name (i := 4) sc_law_entries.nd rfl (by first | exact Or.inl rfl | exact Or.inr rfl)) (pss_one (ps_asg (pe_callD D_law_weights (hr.mono (by decide)) rfl (pa_cons (pv 0) (pa_cons (pv 1) pa_nil))) (pg_sub (pv 3) (pe_callD D_law_pick (hr.mono (by decide)) rfl (pa_cons (pv 0) (pa_cons (pe_lstN (pa_cons pe_str (pa_cons pe_str (pa_cons pe_str (pa_cons pe_str (pa_cons pe_str pa_nil)))))) pa_nil))) (set_dict (Nat.lt_of_le_of_lt (Nat.add_le_add_left (by decide) _) hu))))))
      (pss_one (ps_ret (pv 3))))), ?_⟩
    intro t ht
    have st := same_new (o := .dK []) ht
    have ntp : t ≠ p := fun z => by rw [z, pen.pen] at ht; cases ht
    refine ⟨_, rfl, _, rfl, .inl ⟨_, _, rfl, rfl, p, l, ns, a, r, m + 1, rfl, pen.same st, by omega, by omega, by omega, fun H1 a1 r1 dd k1 pen1 la1 d0 d1 => ?_⟩⟩
    have et1 : H1 t = some (.dK (bD [])) := k1 _ _ ntp upd_same
    have kp1 : Keep p H H1 := (Keep.of st).trans k1
    refine ⟨dd, rfl, by omega, by omega, ?_⟩
    refine for_range (lo := 0) (n := dd.toNat) (fun i σ' H' => ∃ a' r' ms wf c, σ' = [some (.ref p), some (.ref sa), some (.int m), some (.ref t), c] ∧ PenAt H' p l ns a' r' ∧ a' ≤ a + 1 + 121 * i ∧ Keep p H H' ∧ EntIs H' t ks d ms wf ∧ ("new" : Str) ∉ ms)
      ⟨a1, r1, [], fun _ => [], none, rfl, pen1, by omega, kp1, ⟨⟨[], et1, rfl, fun _ h => absurd h List.not_mem_nil⟩, List.nodup_nil, fun _ h => absurd h List.not_mem_nil, fun _ h => absurd h List.not_mem_nil⟩, List.not_mem_nil⟩ (fun i σ' H2 hi q => ?_) (fun σ' H2 q => ?_)
    · obtain ⟨a2, r2, ms, wf, c0, rfl, pen2, la2, kp2, en, nw⟩ := q
      have s2 := s0.kp (.pen kp2 pen.pen)
      have i4 : i < 4 := by omega
      refine gnU ?_
      refine ⟨_, rfl, _, rfl, p, l, ns, a2, r2, sa, ks, d, rfl, pen2, by omega, s2, fun H3 a3 r3 tw ws k3 pen3 la3 h3 e3 w3 => ?_⟩
      have en3 := en.pen k3 pen2.pen
      refine ⟨_, rfl, _, rfl, ?_⟩
      refine ⟨by show 5 ≤ sizeLine; decide, fun L hL _ => ?_⟩
      have s4 := same_new (o := .lst [.str "q", .str "a", .str "zz", .str "total", .str "abcdefgh"]) hL
      have nL : L ≠ p := fun z => by rw [z, pen3.pen] at hL; cases hL
      refine ⟨p, l, L, ns, a3, r3, _, rfl, pen3.same s4, by omega, upd_same, nL, (by show 0 < 5; decide), (by show 5 < 1000000; decide), fun H5 a5 r5 v k5 pen5 la5 hv => ?_⟩
      obtain ⟨n, rfl, hn, nn⟩ : ∃ n, v = V.str n ∧ n ∈ entNames ∧ n ≠ ("new" : Str) := by
        simp only [List.mem_cons, List.not_mem_nil, or_false] at hv
        rcases hv with rfl | rfl | rfl | rfl | rfl <;> exact ⟨_, rfl, by decide, by decide⟩
      have en5 := (en3.same s4).pen k5 (s4 _ _ pen3.pen)
      have ntw : tw ≠ p := fun z => by rw [z, pen3.pen] at e3; cases e3
      have e5 := k5 _ _ ntw (s4 _ _ e3)
      have kp5 := ((kp2.trans k3).trans (Keep.of s4)).trans k5
      obtain ⟨es, q1, q2, q3⟩ := en5.ex
      obtain ⟨ms', en6, pms⟩ := ent_put q1 q2 q3 en5.nd en5.names en5.wts hn w3 e5 rfl
      have few : es.length ≤ 6 := by
        have := en5.few
        rw [← q2, List.length_map] at this
        exact this
      have ntp5 : ∀ {b}, b ≠ t → H5 b = (upd H5 t (.dK (putK (bD es) (Sum.inr n) (V.ref tw)))) b := fun h => (upd_ne h).symm
      refine ⟨t, _, rfl, .inl ⟨bD es, Sum.inr n, q1, rfl, ?_, rfl⟩, ?_⟩
      · rw [bD_length, sizeLine_eq]
        omega
      · refine ⟨a5, r5, ms', _, _, rfl, { pen5 with pen := ?_, nums := ?_ }, by omega, fun b o nb hb => ?_, en6, fun m => ?_⟩
        · exact (upd_ne fun z => by rw [z] at ntp; exact ntp rfl).trans pen5.pen
        · exact (upd_ne fun z => by have := pen5.nums; rw [z, q1] at this; cases this).trans pen5.nums
        · exact (upd_ne (ne_of_none hb ht)).trans (kp5 _ _ nb hb)
        · have m2 := pms.mem_iff.mp m
          split at m2
          · exact nw m2
          · rcases List.mem_append.mp m2 with m2 | m2
            · exact nw m2
            · exact nn (List.mem_singleton.mp m2).symm
    · obtain ⟨a2, r2, ms, wf, c0, rfl, pen2, la2, kp2, en, nw⟩ := q
      exact ⟨_, rfl, k H2 a2 r2 t ms wf kp2 pen2 (by omega) ht en nw⟩
/-- what a book holds, its entries in some order -/
theorem bookIs_of {H : Hp} {x dx t s : Addr} {ks : List Str} {d : Nat} {ns : List Str} {wf : WF} {fs es : BL} (c : BookC K H x dx s t fs) (pm : fs.Perm es) (so : sortedS (fs.map (·.1)) = true) (en : (es.map (·.1)).Perm ns) (nd : ns.Nodup) (few : ns.length ≤ 12)
    (q : ∀ z ∈ es, ∃ tq, HeldX K H "Question" "weights" z.2 s tq (wf z.1)) (good : ∀ n ∈ ns, n.length ≤ sizeLine ∧ isName n = true) (wok : ∀ n ∈ ns, WOk ks d (wf n)) : (fs.map (·.1)).Perm ns ∧ BookIs K H x t s ks d (fs.map (·.1)) wf := by
  have p := (pm.map (·.1)).trans en
  exact ⟨p, ⟨⟨dx, fs, c, rfl, fun z hz => q z (pm.mem_iff.mp hz)⟩, p.nodup_iff.mpr nd, so, by rw [p.length_eq]; exact few, fun n hn => good n (p.mem_iff.mp hn), fun n hn => wok n (p.mem_iff.mp hn)⟩⟩
theorem wok_bare {ks : List Str} {d : Nat} (ok : ShOk ks d) {ws : List (Pl × Int)} (w : Wts ks d ws) : WOk ks d (bare ks d ws) := by
  rw [bare_bareL w ok]
  have m := bare_mem (ks := ks) (d := d) (ws := ws)
  have f := bare_few ok ws
  have b := bare_bits (ks := ks) (d := d) w.bits
  rw [bare_bareL w ok] at m f b
  exact ⟨fun z hz => (m z hz).1, f, b, nd_bareL (w.nd ok)⟩
theorem bat_take2 {es : BL} (nd : (es.map (·.1)).Nodup) {i : Nat} {z : Str × Addr} (h : es[i]? = some z) {gs : BL} (p : (gs.map (·.1)).Perm ((es.take i).map (·.1))) : z.1 ∉ gs.map (·.1) := fun m => bat_none.mp (bat_take nd h) (p.mem_iff.mp m)
theorem ok_law_book (T : Top w K mg) (C_Book : MakeR (L2.CX P w) P w K mg base "Book" (He.ga K "Book") 6 (spBook K)) (C_Question : MakeX (L2.CX P w) P w K mg base "Question" (He.ga K "Question") 8 ["self", "shape", "weights"] [] (spQuestion K)) (M_Book_with_question : MethX (L2.CX P w) P w K mg base (He.ga K "Book") "with_question" 8 ["self", "name", "question"] (spWith K)) (F : Fn K "_law_book" s_law_book fd) : FnOk P w K mg base CX0 11 (He.ga K "_law_book") fd ["_law_shape_here", "_law_entries_here"] (spLBook K) := by
  refine F.ok sc_law_book (fun vs H Q E h => ?_) (fun cdv A outer s H vs Q E hr h => ?_)
  · obtain ⟨s, t, ks, d, ns, wf, rfl, _⟩ := h
    rfl
  · obtain ⟨sa, t, ks, d, ns, wf, rfl, s0, en, k⟩ := h
    have hu := hr.units
    obtain ⟨es, e1, e2, e3⟩ := en.ex
    have le : es.length = ns.length := by rw [← e2, List.length_map]
    have few := en.few
    refine ⟨_, PSs.nox (pss_cons (ps_set (i := 2) sc_law_book.nd rfl (by first | exact Or.inl rfl | exact Or.inr rfl) (pe_mkR C_Book (hr.mono (by decide)) rfl pass_E0 (pa_cons (pv 0) pa_nil)))
      (pss_cons (ps_lock (ps_for PassesOwn.never rfl (pi_keys (pv 1)) (pg_name (i := 3) sc_law_book.nd rfl (by first | exact Or.inl rfl | exact Or.inr rfl)) (pss_one (ps_set (i := 2) sc_law_book.nd rfl (by first | exact Or.inl rfl | exact Or.inr rfl) (pe_mX (E := E0) M_Book_with_question T.k_Book (hr.mono (by decide)) pass_E0 (pv 2) (pa_cons (pv 3) (pa_cons (pe_mkX C_Question (hr.mono (by decide)) rfl pass_E0 (pa_cons (pv 0) (pa_cons (pe_dget (Nat.lt_of_le_of_lt (Nat.add_le_add_left (by decide) _) hu) (pv 1) (pv 3) (fun _ _ => rfl)) pa_nil))) pa_nil)))))))
      (pss_one (ps_ret (pv 2))))), ?_⟩
    with_reducible refine setsU ?_
    refine ⟨_, rfl, fun x dx hx hdx ne => ?_⟩
    have sM := made_mid (o := .ins (He.ga K "Book") dx []) hx hdx
    refine ⟨x, dx, sa, ks, d, [], [], rfl, upd_same, (upd_ne ne).trans upd_same, s0.kp (.of sM), rfl, (fun i b z hb _ => by simp at hb), List.nodup_nil, Nat.zero_le _, fun H1 t1 gs k1 ht1 pm so bc => ⟨rfl, ?_⟩⟩
    have s1 := made_same hx hdx k1
    have gnil : gs = [] := List.Perm.eq_nil pm
    subst gnil
    have f1 := sM.free ht1
    have nt1 : t ≠ t1 := fun z => by rw [z, f1] at e1; cases e1
    with_reducible refine seqU ?_
    refine ⟨t, .dK (bD es), s1 _ _ e1, True.intro, fun od => ?_⟩
    refine ⟨_, rfl, t, od, rfl, .inl ⟨bD es, upd_same, ?_⟩⟩
    refine for_it walk_keys (fun i σ' H' => ∃ c y dy t' gs, σ' = [some (.ref sa), some (.ref t), some (.ref y), c] ∧ Same (upd H1 t (.frz od (.dK (bD es)))) H' ∧ BookC K H' y dy sa t' gs ∧ H t' = none ∧ (gs.map (·.1)).Perm ((es.take i).map (·.1)) ∧ sortedS (gs.map (·.1)) = true ∧ ∀ z ∈ gs, ∃ tq, HeldX K H' "Question" "weights" z.2 sa tq (bare ks d (wf z.1)))
      ⟨none, x, dx, t1, [], rfl, fun _ _ h => h, ?_, f1, .refl _, so, fun _ h => absurd h List.not_mem_nil⟩ (fun i σ' H' _ q => ?_) (fun i v σ' H2 H3 hi q yl => ?_) (fun σ' H2 q => ?_)
    · have e1' := s1 _ _ e1
      exact ⟨(upd_ne (fun z => by have := bc.obj; rw [z, e1'] at this; cases this)).trans bc.obj, (upd_ne (fun z => by have := bc.own; rw [z, e1'] at this; cases this)).trans bc.own, (upd_ne (Ne.symm nt1)).trans bc.dic⟩
    · obtain ⟨_, _, _, _, _, _, sm, _⟩ := q
      exact sm _ _ upd_same
    · obtain ⟨c0, y, dy, t', gs, rfl, sm, bc2, ht', pm2, so2, q2⟩ := q
      obtain ⟨rfl, key, u, hkv, rfl⟩ := yl
      rw [show (bD es)[i]? = (es[i]?).map (fun z => ((Sum.inr z.1 : L2.Key), V.ref z.2)) from List.getElem?_map ..] at hkv
      obtain ⟨z, hz, ez⟩ := Option.map_eq_some_iff.mp hkv
      cases ez
      have mz : z ∈ es := List.mem_of_getElem? hz
      have m1 : z.1 ∈ ns := by rw [← e2]; exact List.mem_map_of_mem mz
      have e1' := s1 _ _ e1
      have nzt : z.2 ≠ t := fun q => by have := e3 z mz; rw [q, e1] at this; cases this
      have ez := sm _ _ ((upd_ne nzt).trans (s1 _ _ (e3 z mz)))
      have sh := s0.kp ((Kp.of (E := fun _ => False) s1).trans ((Kp.lockK (od := od) e1').trans (Kp.of sm)))
      have vb : valV (bD es) (Sum.inr z.1) = some (.ref z.2) := by
        rw [valV_bD, bat_mem (by rw [e2]; exact en.nd) mz]
        rfl
      have w1 := en.wts _ m1
      refine gnU ?_
      refine ⟨_, rfl, y, dy, _, rfl, bc2.obj, rfl, _, rfl, _, rfl, _, rfl, _, rfl, t, V.ref z.2, rfl, .inl ⟨_, Sum.inr z.1, .inr ⟨od, sm _ _ upd_same⟩, rfl, vb.symm⟩, fun qa dq nq ndq nd => ?_⟩
      have sQ := made_mid (o := .ins (He.ga K "Question") dq []) nq ndq
      refine ⟨qa, dq, sa, z.2, ks, d, wf z.1, rfl, upd_same, (upd_ne nd).trans upd_same, sh.kp (.of sQ), sQ _ _ ez, w1.mem, fun H4 t4 pt pdx ptt bs k4 ht4 qc => ⟨rfl, ?_⟩⟩
      have s4 := made_same nq ndq k4
      have bc4 := bc2.same s4
      have sh4 := sh.kp (.of s4)
      have out := bat_take2 (by rw [e2]; exact en.nd) hz pm2
      have fg : (gs.filter fun w => !decide (w.1 = z.1)) = gs := List.filter_eq_self.mpr fun w hw => by
        have : w.1 ≠ z.1 := fun q => out (by rw [← q]; exact List.mem_map_of_mem hw)
        rw [decide_eq_false this]
        rfl
      have q4 : ∀ w ∈ gs, ∃ tq, HeldX K H4 "Question" "weights" w.2 sa tq (bare ks d (wf w.1)) := fun w hw => let ⟨tq, h⟩ := q2 w hw; ⟨tq, h.same s4⟩
      have mg : ∀ w ∈ gs, w.1 ∈ ns := fun w hw => by
        have := pm2.mem_iff.mp (List.mem_map_of_mem (f := (·.1)) hw)
        obtain ⟨v, hv, e⟩ := List.mem_map.mp this
        rw [← e2]
        exact List.mem_map.mpr ⟨v, List.mem_of_mem_take hv, e⟩
      have lg : gs.length ≤ 6 := by
        have := pm2.length_eq
        rw [List.length_map, List.length_map, List.length_take] at this
        omega
      have gnd : (gs.map (·.1)).Nodup := by
        refine pm2.nodup_iff.mpr ?_
        have := en.nd
        rw [← e2] at this
        exact this.sublist ((List.take_sublist _ _).map _)
      refine ⟨y, dy, sa, t', ks, d, gs, z.1, qa, rfl, bc4, sh4, ⟨gnd, by omega, fun w hw => ?_⟩, (ent_good (en.names _ m1)).1, (ent_good (en.names _ m1)).2, ⟨sa, ks, d, qc.hx.held.of, sh4, shapeEq_self d sh4.good⟩, fun H5 y2 dy2 t5 fs5 s5 ht5 pm5 so5 bc5 => ?_⟩
      · obtain ⟨tq, h⟩ := q4 w hw
        have g := ent_good (en.names _ (mg w hw))
        exact ⟨g.1, g.2, sa, ks, d, h.held.of, sh4, shapeEq_self d sh4.good⟩
      · rw [fg] at pm5
        have frz : ∀ {b o}, H1 b = some o → b ≠ t → H3 b = some o := fun e n => sm _ _ ((upd_ne n).trans e)
        refine ⟨_, y2, dy2, t5, fs5, rfl, sm.trans (s4.trans s5), bc5, ?_, ?_, so5, fun w hw => ?_⟩
        · cases c : H t5 with
          | none => rfl
          | some o =>
            by_cases q : t5 = t
            · rw [q] at ht5
              rw [s4 _ _ (sm _ _ upd_same)] at ht5
              cases ht5
            · rw [s4 _ _ (frz (s1 _ _ c) q)] at ht5
              cases ht5
        · have et : (es.take (i + 1)).map (·.1) = (es.take i).map (·.1) ++ [z.1] := by rw [take_snoc hz, List.map_append]; rfl
          rw [et]
          refine (pm5.map (·.1)).trans ?_
          rw [List.map_cons]
          exact (List.Perm.cons _ pm2).trans (List.perm_append_comm (l₁ := [z.1]))
        · rcases List.mem_cons.mp (pm5.mem_iff.mp hw) with rfl | hw
          · exact ⟨t4, qc.hx.same s5⟩
          · obtain ⟨tq, h⟩ := q4 w hw
            exact ⟨tq, h.same s5⟩
    · obtain ⟨c0, y, dy, t', gs, rfl, sm, bc2, ht', pm2, so2, q2⟩ := q
      have e1' := s1 _ _ e1
      have ft := sm _ _ (upd_same (a := t))
      have su := unlock_same e1' sm
      rw [bD_length, List.take_length] at pm2
      have ne2 : ∀ {b o}, H2 b = some o → (∀ od' u, o ≠ .frz od' u) → b ≠ t := fun {b o} h n q => by
        rw [q, ft] at h
        exact n _ _ (Option.some.inj h).symm
      refine ⟨ft, _, rfl, ?_⟩
      obtain ⟨pm3, bi⟩ := bookIs_of (wf := fun n => bare ks d (wf n)) (ks := ks) (d := d) (ns := ns) (es := gs) (K := K) (H := upd H2 t (.dK (bD es))) ⟨(upd_ne (ne2 bc2.obj fun _ _ z => nomatch z)).trans bc2.obj, (upd_ne (ne2 bc2.own fun _ _ z => nomatch z)).trans bc2.own, (upd_ne (ne2 bc2.dic fun _ _ z => nomatch z)).trans bc2.dic⟩ (.refl _) so2 (by rw [← e2]; exact pm2) en.nd (by omega) (fun z hz => by
        obtain ⟨tq, dy, fs, h1, h2, h3, h4⟩ := q2 z hz
        exact ⟨tq, dy, fs, (upd_ne (ne2 h1 fun _ _ z => nomatch z)).trans h1, h2, h3, (upd_ne (ne2 h4 fun _ _ z => nomatch z)).trans h4⟩) (fun n hn => ent_good (en.names n hn)) (fun n hn => wok_bare s0.ok (en.wts n hn))
      exact k _ y t' _ (s1.trans su) ht' pm3 bi
end
end L2.K20
set_option Elab.async false
set_option linter.all false
set_option maxRecDepth 100000
set_option maxHeartbeats 4000000
/-! A comprehension whose test is never true; lists of texts in order. -/
namespace L2.RV
open PySem PySem.Spec PyProof.Rows
/-- [f(x) for x in e if p(x)], p(x) never true; p may make objects -/
theorem lc_none {K : PySem.W.Frag} {ti te : TE} {tt : TT} {j : Nat} {σ : L2.St} {H : Hp} {Q : VK} (C : Addr → List V → Hp → Prop) (hi : ∀ R : V → Hp → Prop, (∀ a xs H1, C a xs H1 → R (.ref a) H1) → ti σ H R)
    (hC : ∀ a xs H1, C a xs H1 → Sq K H1 a xs)
    (ht : ∀ a xs H1, C a xs H1 → ∀ x ∈ xs, ∀ (H2 : Hp) (Q' : Bool → Hp → Prop), Same H1 H2 → (∀ H3, Same H2 H3 → Q' false H3) → tt ((wipe σ [j]).set j (some x)) H2 Q')
    (k : ∀ a xs H1, C a xs H1 → ∀ D H', Same H1 H' → H1 D = none → H' D = some (.lst []) → Q (.ref D) H') {vs : List Nat} (evs : vs = [j] := by rfl) : tLc (iSq K ti) (gName j) tt te vs σ H Q := by
  subst evs
  refine hi _ fun a xs H1 c => ?_
  have hq := hC a xs H1 c
  refine ⟨a, xs, rfl, hq, fun J wk D hD => ?_⟩
  refine lc_it wk (fun i H' => H' D = some (.lst []) ∧ Same H1 H') ⟨upd_same, same_new hD⟩ (fun i H' _ e => .of_same e.2) (fun i x H2 H3 lt e y => ?_) (fun H' e => ?_)
  · obtain ⟨hDl, sm⟩ := e
    obtain ⟨rfl, hx⟩ := y
    refine ⟨wipe_set1 σ j _, ht a xs H1 c x (List.mem_of_getElem? hx) _ _ sm fun H4 s4 => ?_⟩
    rw [if_neg (by decide)]
    exact ⟨s4 _ _ hDl, sm.trans s4⟩
  · exact k a xs H1 c D _ e.2 hD e.1
/-- a list of texts in order, looked at in pairs -/
theorem sorted_pw : ∀ {xs : List Str}, sortedS xs = true → xs.Pairwise fun a b => a.cps.toList ≤ b.cps.toList
  | [], _ => .nil
  | x :: xs, h => by
    have key : ∀ (x : Str) (xs : List Str), risingS x xs = true → (x :: xs).Pairwise fun a b => a.cps.toList ≤ b.cps.toList := by
      intro x xs
      induction xs generalizing x with
      | nil => intro _; exact List.pairwise_singleton _ _
      | cons y ys ih =>
        intro h
        unfold risingS at h
        cases c : ltCps y.cps.toList x.cps.toList with
        | true => rw [c] at h; simp at h
        | false =>
          rw [c] at h
          have h2 : risingS y ys = true := by simpa using h
          have p := ih y h2
          have xy : x.cps.toList ≤ y.cps.toList := by
            rw [ltCps_eq] at c
            exact of_decide_eq_false c
          refine List.pairwise_cons.mpr ⟨fun z hz => ?_, p⟩
          rcases List.mem_cons.mp hz with rfl | hz
          · exact xy
          · exact List.le_trans xy ((List.pairwise_cons.mp p).1 z hz)
    exact key x xs h
theorem sorted_one {xs ys : List Str} (p : xs.Perm ys) (hx : sortedS xs = true) (hy : sortedS ys = true) : xs = ys :=
  p.eq_of_pairwise (le := fun a b => a.cps.toList ≤ b.cps.toList) (fun a b _ _ h1 h2 => by
    have e := List.le_antisymm h1 h2
    obtain ⟨⟨a⟩⟩ := a
    obtain ⟨⟨b⟩⟩ := b
    cases e
    rfl) (sorted_pw hx) (sorted_pw hy)
end L2.RV
set_option Elab.async false
set_option linter.all false
set_option maxRecDepth 100000
set_option maxHeartbeats 4000000
/-! What a book tells of itself, looked at. -/
namespace L2.K20
open PySem PySem.Spec PyProof.Rows L2.RV
theorem shaped_list {xs : List Str} (h : (xs.all fun x => PyData.strOk x) = true) : SeqAt.shaped (.list (xs.map PyData.str)) = true := by
  have z := deep_str xs
  have e : PyData.canLay0 (.list (xs.map PyData.str)) = true := by simp only [PyData.canLay0]; exact lay_str xs h
  have d : (PyData.list (xs.map PyData.str)).depth ≤ 64 := by simp only [PyData.depth]; omega
  unfold SeqAt.shaped
  rw [e, decide_eq_true d]
  rfl
theorem ent_str {n : Str} (h : n ∈ entNames) : PyData.strOk n = true := by
  have g : ∀ n ∈ entNames, PyData.strOk n = true := by decide +kernel
  exact g n h
/-- two lists of the same texts -/
theorem strs_ne {K : PySem.W.Frag} {H : Hp} {a b : Addr} {xs : List Str} (ok : (xs.all fun x => PyData.strOk x) = true) (h1 : H a = some (.lst (xs.map V.str))) (h2 : H b = some (.lst (xs.map V.str))) {Q : VK} (q : Q (.bl false) H) : rDiff K (.ref a) (.ref b) H Q :=
  .inr ⟨_, _, .lst (SqL.of h1) (dpA_str xs), .lst (SqL.of h2) (dpA_str xs), shaped_list ok, shaped_list ok, by rw [same_data (shaped_list ok)]; exact q⟩
theorem strs_nil {K : PySem.W.Frag} {H : Hp} {a b : Addr} {xs : List Str} (ok : (xs.all fun x => PyData.strOk x) = true) (h1 : H a = some (.lst (xs.map V.str))) (h2 : H b = some (.lst [])) {Q : VK} (q : Q (.bl (!xs.isEmpty)) H) : rDiff K (.ref a) (.ref b) H Q :=
  .inr ⟨_, .list [], .lst (SqL.of h1) (dpA_str xs), .lst (SqL.of h2) .nil, shaped_list ok, by decide, by
    have e : PyData.eqv (.list (xs.map PyData.str)) (.list []) = xs.isEmpty := by
      cases xs with
      | nil => rfl
      | cons x r => simp only [List.map_cons]; unfold PyData.eqv PyData.eqvAll; rfl
    rw [e]
    exact q⟩
theorem nils_ne {K : PySem.W.Frag} {H : Hp} {a b : Addr} (h1 : H a = some (.lst [])) (h2 : H b = some (.lst [])) {Q : VK} (q : Q (.bl false) H) : rDiff K (.ref a) (.ref b) H Q :=
  .inr ⟨.list [], .list [], .lst (SqL.of h1) .nil, .lst (SqL.of h2) .nil, by decide, by decide, q⟩
theorem nils_eq {K : PySem.W.Frag} {H : Hp} {a b : Addr} (h1 : H a = some (.lst [])) (h2 : H b = some (.lst [])) {Q : VK} (q : Q (.bl true) H) : rSame K (.ref a) (.ref b) H Q :=
  .inr ⟨.list [], .list [], .lst (SqL.of h1) .nil, .lst (SqL.of h2) .nil, by decide, by decide, q⟩
/-- _law_told_right(book, shape, entries) -/
def spTold (K : PySem.W.Frag) : Sp := fun vs H Q _ => ∃ x t' s t ks d ls ns wf, vs = [.ref x, .ref s, .ref t] ∧ ShapeAt K H s ks d ∧ EntIs H t ks d ns wf ∧ BookIs K H x t' s ks d ls (fun n => bare ks d (wf n)) ∧ ls.Perm ns ∧ ("new" : Str) ∉ ns ∧ ∀ H', Same H H' → Q (.bl true) H'
section
variable {P : Program} {w : World} {K : PySem.W.Frag} {mg : Str → Option Value} {base : Heap} {fd : FuncData}
theorem ok_law_told_right (T : Top w K mg) (D_law_names : Def P w K mg base "_law_names" 1 ["_law_entries_here"] spNames) (I_Book : IterS P w K mg base (He.ga K "Book") 1 (spBookIter K)) (S_Book_len : MethS CX0 P w K mg base (He.ga K "Book") "__len__" 1 ["self"] (spBookLen K)) (S_Shape_eq : MethS CX0 P w K mg base (He.ga K "Shape") "__eq__" 2 ["self", "other"] (spShapeEq K)) (S_Question_eq : MethS CX0 P w K mg base (He.ga K "Question") "__eq__" 4 ["self", "other"] (spQEq K)) (S_Book_contains : MethS CX0 P w K mg base (He.ga K "Book") "__contains__" 1 ["self", "x"] (spBookHas K)) (S_Book_getitem : MethS (L2.CX P w) P w K mg base (He.ga K "Book") "__getitem__" 4 ["self", "at"] (spBookAt K)) (C_Question : MakeX (L2.CX P w) P w K mg base "Question" (He.ga K "Question") 8 ["self", "shape", "weights"] [] (spQuestion K)) (F : Fn K "_law_told_right" s_law_told_right fd) : FnOk P w K mg base CX0 11 (He.ga K "_law_told_right") fd ["_law_book_here", "_law_shape_here", "_law_entries_here"] (spTold K) := by
  refine F.ok sc_law_told_right (fun vs H Q E h => ?_) (fun cdv A outer s H vs Q E hr h => ?_)
  · obtain ⟨x, t', s, t, ks, d, ls, ns, wf, rfl, _⟩ := h
    rfl
  · obtain ⟨x, t', sa, t, ks, d, ls, ns, wf, rfl, s0, en, bi, pm, nw, k⟩ := h
    have hu := hr.units
    obtain ⟨es, e1, e2, e3⟩ := en.ex
    have le : es.length = ns.length := by rw [← e2, List.length_map]
    have few := en.few
    have sok : (ls.all fun x => PyData.strOk x) = true := List.all_eq_true.mpr fun n hn => ent_str (en.names _ (pm.mem_iff.mp hn))
    refine ⟨_, PSs.nox (pss_cons (ps_set (i := 3) sc_law_told_right.nd rfl (by first | exact Or.inl rfl | exact Or.inr rfl) (pe_callD D_law_names (hr.mono (by decide)) rfl (pa_cons (pv 2) pa_nil)))
      (pss_cons (ps_if (PW.pt (pw_or (pt_cmpR (op_diffK (K := K) rfl hu) (pe_lock (pe_lc (own := [("_law_name", 4)]) (g := gName 4) (tt := tYes) (by rfl) sc_law_told_right.nd (pi_ownD I_Book (hr.mono (by decide)) (pv 0)) (blkOk_by (own := [("_law_name", 4)]) (N := ["_law_book_here", "_law_shape_here", "_law_entries_here", "_law_names_here", "_law_name", "_law_odd"]) (sc := defScope s_law_told_right) (by decide +kernel)) (fun _ _ _ _ _ => by exact (pg_name (i := 4) sc_law_told_right.nd rfl (by first | exact Or.inl rfl | exact Or.inr rfl))) (fun _ _ _ _ _ => by exact pts_nil) (fun _ _ _ _ _ => by exact (pv 4)))) (pv 3) (nomark _)) (pw_or (pt_cmpR (op_diffK (K := K) rfl hu) (pe_callB (call_lenO S_Book_len (hr.mono (by decide)) pass_CX0) rfl T.n_len (by decide +kernel) (pa_cons (pv 0) pa_nil)) (pe_callB (call_lenK (K := K) rfl) rfl T.n_len (by decide +kernel) (pa_cons (pv 3) pa_nil)) (nomark _)) (pw_or1 (pt_cmpR (op_neO S_Shape_eq T.o_Shape.obj T.o_Shape.ne (hr.mono (by decide)) pass_CX0) (pe_fldK (K := K) rfl (pv 0) rfl) (pv 1) (nomark _)))))) (pss_one (ps_ret pe_bl)) pss_nil)
      (pss_cons (ps_if (pt_cmpR (op_diffK (K := K) rfl hu) (pe_callTy (call_boolLen S_Book_len T.a_Book___bool__ (hr.mono (by decide)) pass_CX0) rfl T.n_bool (by decide +kernel) (pa_cons (pv 0) pa_nil)) (pe_cmpR (op_diffK (K := K) rfl hu) (pv 3) (pe_lstN pa_nil) (nomark _)) (nomark _)) (pss_one (ps_ret pe_bl)) pss_nil)
      (pss_cons (ps_if (pt_cmpR (op_diffK (K := K) rfl hu) (pe_lc (own := [("_law_name", 4)]) (g := gName 4) (by rfl) sc_law_told_right.nd (pi_sqK (K := K) rfl (pv 3)) (blkOk_by (own := [("_law_name", 4)]) (N := ["_law_book_here", "_law_shape_here", "_law_entries_here", "_law_names_here", "_law_name", "_law_odd"]) (sc := defScope s_law_told_right) (by decide +kernel)) (fun _ _ _ _ _ => by exact (pg_name (i := 4) sc_law_told_right.nd rfl (by first | exact Or.inl rfl | exact Or.inr rfl))) (fun _ _ _ _ _ => by exact (pts_one (PW.pt (pw_or (pt_cmpR (op_neOK (K := K) rfl S_Question_eq T.o_Question.obj T.o_Question.ne (hr.mono (by decide)) pass_CX0) (pe_ixO S_Book_getitem (hr.mono (by decide)) pass_E0 (pv 0) (pv 4)) (pe_mkX C_Question (hr.mono (by decide)) rfl pass_E0 (pa_cons (pv 1) (pa_cons (pe_dget (Nat.lt_of_le_of_lt (Nat.add_le_add_left (by decide) _) hu) (pv 2) (pv 4) (fun _ _ => rfl)) pa_nil))) (nomark _)) (pw_or1 (pt_cmpR (op_notInO S_Book_contains (hr.mono (by decide)) pass_CX0) (pv 4) (pv 0) rfl)))))) (fun _ _ _ _ _ => by exact (pv 4))) (pe_lstN pa_nil) (nomark _)) (pss_one (ps_ret pe_bl)) pss_nil)
      (pss_one (ps_ret (pe_cmpR (op_sameK (K := K) rfl hu) (pe_lc (own := [("_law_odd", 5)]) (g := gName 5) (by rfl) sc_law_told_right.nd (pi_sqK (K := K) rfl (pe_lstN (pa_cons pe_str (pa_cons pe_str (pa_cons pe_str (pa_cons pe_non (pa_cons pe_int (pa_cons pe_bl (pa_cons (pe_tup (pa_cons pe_str pa_nil)) (pa_cons (pe_lstN (pa_cons pe_str pa_nil)) (pa_cons pe_dnewK (pa_cons (pv 0) pa_nil)))))))))))) (blkOk_by (own := [("_law_odd", 5)]) (N := ["_law_book_here", "_law_shape_here", "_law_entries_here", "_law_names_here", "_law_name", "_law_odd"]) (sc := defScope s_law_told_right) (by decide +kernel)) (fun _ _ _ _ _ => by exact (pg_name (i := 5) sc_law_told_right.nd rfl (by first | exact Or.inl rfl | exact Or.inr rfl))) (fun _ _ _ _ _ => by exact (pts_one (pt_cmpR (op_inO S_Book_contains (hr.mono (by decide)) pass_CX0) (pv 5) (pv 0) rfl))) (fun _ _ _ _ _ => by exact (pv 5))) (pe_lstN pa_nil) (nomark _)))))))), ?_⟩
    with_reducible refine setsU ?_
    refine ⟨_, rfl, t, es, rfl, e1, by rw [e2]; exact en.nd, by omega, fun H1 D1 ys s1 nD1 pm1 so1 eD1 => ?_⟩
    rw [e2] at pm1
    have ey : ys = ls := sorted_one (pm1.trans pm.symm) so1 bi.so
    subst ey
    have es1 : ((start ["_law_book_here", "_law_shape_here", "_law_entries_here", "_law_names_here", "_law_name", "_law_odd"] [V.ref x, V.ref sa, V.ref t]).set 3 (some (V.ref D1)) : L2.St) = [some (.ref x), some (.ref sa), some (.ref t), some (.ref D1), none, none] := rfl
    rw [es1]
    have en1 := en.same s1
    have bi1 := bi.same s1
    have sh1 := s0.kp (.of s1)
    have k1 : ∀ H', Same H1 H' → Q (.bl true) H' := fun H' z => k H' (s1.trans z)
    have names := en.names
    clear es1 e1 e3 en bi s0 s1 k nD1
    -- its names, how many, its shape
    with_reducible refine seqU ?_
    with_reducible refine ifU ?_
    with_reducible refine torU ?_
    with_reducible refine testU ?_
    with_reducible refine opU ?_
    obtain ⟨dx, gs, bc1, eg, q1⟩ := bi1.ex
    have lg : gs.length = ys.length := by rw [← eg, List.length_map]
    have fy := bi1.few
    refine lc_keysO (fun _ => true) (fun key => kV key) bc1.dic (by rw [bD_length]; omega) (by show 4 < 6; decide) (fun od R r => book_walk bc1 od R (fun Q q => ⟨_, rfl, q⟩) r) (fun od key v _ H3 Q' _ q => q) (fun od key v _ _ H3 Q' _ q => ⟨_, rfl, q⟩) (fun D2 H2 s2 nD2 eD2 => ?_)
    rw [filt_all] at eD2
    have eD2' : H2 D2 = some (.lst (ys.map V.str)) := eD2.trans (by unfold bD; rw [← eg]; simp only [List.map_map]; rfl)
    refine ⟨_, rfl, strs_ne sok eD2' (s2 _ _ eD1) ⟨_, rfl, ite2 (fun c => absurd c (by decide)) fun _ => ?_⟩⟩
    have bc2 := bc1.same s2
    with_reducible refine torU ?_
    with_reducible refine testU ?_
    with_reducible refine opU ?_
    refine ⟨_, rfl, x, dx, _, rfl, bc2.obj, x, dx, sa, t', gs, rfl, bc2, _, rfl, ⟨by omega, by omega⟩, ?_⟩
    refine ⟨_, rfl, .ref D1, _, rfl, .inl ⟨_, SqL.of (s2 _ _ eD1), rfl⟩, ?_⟩
    refine .inl ⟨rfl, _, rfl, ite2 (fun c => absurd c (by rw [lg, List.length_map, decide_eq_true rfl]; decide)) fun _ => ?_⟩
    with_reducible refine testU ?_
    with_reducible refine opU ?_
    have sh2 := sh1.kp (.of s2)
    obtain ⟨du, hs, e5⟩ := sh2.ins
    obtain ⟨ty2, _⟩ := ins_kit T.o_Shape T.o_Shape T.k_Shape sh2.ins (by decide)
    refine ⟨_, rfl, x, _, dx, _, _, rfl, bc2.obj, T.k_Book, T.a_Book_shape, rfl, _, rfl, sa, du, hs, _, rfl, e5, ty2, (T.o_Shape.kit "Shape" (by decide)).2, sa, sa, ks, d, ks, d, rfl, sh2, sh2, _, rfl, ?_⟩
    rw [shapeEq_self d sh2.good]
    refine ⟨_, rfl, ite2 (fun c => absurd c (by decide)) fun _ => ?_⟩
    -- whether it holds any
    with_reducible refine nxU ?_
    with_reducible refine seqU ?_
    with_reducible refine ifU ?_
    with_reducible refine testU ?_
    with_reducible refine opU ?_
    refine ⟨_, rfl, x, dx, _, rfl, bc2.obj, x, dx, sa, t', gs, rfl, bc2, _, rfl, ⟨by omega, by omega⟩, ?_⟩
    with_reducible refine opU ?_
    refine ⟨_, rfl, by show 0 ≤ sizeLine; omega, fun L hL _ => ?_⟩
    have sL := same_new (o := .lst []) hL
    refine strs_nil sok (sL _ _ (s2 _ _ eD1)) upd_same ?_
    have eb : (((gs.length : Nat) : Int) != 0) = !ys.isEmpty := by
      rw [lg]
      cases ys with
      | nil => rfl
      | cons y r =>
        rw [List.length_cons]
        show (((r.length + 1 : Nat) : Int) != 0) = true
        rw [bne_iff_ne]
        omega
    refine .inl ⟨rfl, _, rfl, ite2 (fun c => absurd c (by rw [eb, decide_eq_true rfl]; decide)) fun _ => ?_⟩
    have s3 := s2.trans sL
    have bc3 := bc2.same sL
    have en3 := en1.same s3
    have sh3 := sh1.kp (.of s3)
    have q3 : ∀ z ∈ gs, ∃ tq, HeldX K (upd H2 L (.lst [])) "Question" "weights" z.2 sa tq (bare ks d (wf z.1)) := fun z hz => let ⟨tq, h⟩ := q1 z hz; ⟨tq, h.same s3⟩
    have eD3 := s3 _ _ eD1
    have k3 : ∀ H', Same (upd H2 L (.lst [])) H' → Q (.bl true) H' := fun H' z => k1 H' (s3.trans z)
    have nd := bi1.nd
    clear e5 ty2 sh2 bc2 eD2' eD2 nD2 hL
    generalize upd H2 L (.lst []) = H3 at sL s3 bc3 en3 sh3 q3 eD3 k3 ⊢
    clear sL s3 s2 bc1 q1 eD1 en1 sh1 k1 bi1
    -- each question, and that it is in
    with_reducible refine nxU ?_
    with_reducible refine seqU ?_
    with_reducible refine ifU ?_
    with_reducible refine testU ?_
    with_reducible refine opU ?_
    have bD3 : BookC K H3 x dx sa t' gs := bc3
    refine lc_none (fun a xs H => a = D1 ∧ xs = ys.map V.str ∧ H = H3) (fun R h => ⟨_, rfl, h _ _ _ ⟨rfl, rfl, rfl⟩⟩) (fun a xs H c => by obtain ⟨rfl, rfl, rfl⟩ := c; exact .inr (SqL.of eD3)) (fun a xs H c v hv H4 Q' s4 q => ?_) (fun a xs H c D4 H4 s4 nD4 eD4 => ?_)
    · obtain ⟨rfl, rfl, rfl⟩ := c
      obtain ⟨n, hn, rfl⟩ := List.mem_map.mp hv
      have mn := pm.mem_iff.mp hn
      obtain ⟨z, hz, ez⟩ := List.mem_map.mp (show n ∈ gs.map (·.1) by rw [eg]; exact hn)
      have bc4 := bc3.same s4
      obtain ⟨tq, hq⟩ := q3 z hz
      have en4 := en3.same s4
      obtain ⟨es4, f1, f2, f3⟩ := en4.ex
      obtain ⟨y, hy, ey⟩ := List.mem_map.mp (show n ∈ es4.map (·.1) by rw [f2]; exact mn)
      have sh4 := sh3.kp (.of s4)
      with_reducible refine torU ?_
      with_reducible refine testU ?_
      with_reducible refine opU ?_
      refine ⟨_, rfl, _, rfl, x, dx, _, rfl, bc4.obj, x, dx, sa, t', gs, n, z.2, rfl, bc4.rd, by rw [← ez]; exact bat_mem (by rw [eg]; exact nd) hz, ?_⟩
      have vb : valV (bD es4) (Sum.inr n) = some (.ref y.2) := by
        rw [valV_bD, ← ey, bat_mem (by rw [f2]; exact en4.nd) hy]
        rfl
      refine ⟨_, rfl, _, rfl, _, rfl, t, .ref y.2, rfl, .inl ⟨_, Sum.inr n, .inl f1, rfl, vb.symm⟩, fun qa dq nq ndq nd => ?_⟩
      have sQ := made_mid (o := .ins (He.ga K "Question") dq []) nq ndq
      refine ⟨qa, dq, sa, y.2, ks, d, wf n, rfl, upd_same, (upd_ne nd).trans upd_same, sh4.kp (.of sQ), sQ _ _ (by rw [← ey]; exact f3 y hy), (en4.wts n mn).mem, fun H5 t5 pt pdx ptt bs k5 ht5 qc => ⟨rfl, ?_⟩⟩
      have s5 := made_same nq ndq k5
      have h1 := (hq.same s4).same s5
      rw [ez] at h1
      have h2 := qc.hx
      have sh5 := sh4.kp (.of s5)
      obtain ⟨ty3, _⟩ := ins_kit T.o_Question T.o_Question T.k_Question h2.held.of.ins (by decide)
      obtain ⟨dz, hf, e6, _⟩ := id h1
      refine ⟨z.2, dz, hf, _, rfl, e6, ty3, (T.o_Question.kit "Question" (by decide)).2, z.2, .ref qa, sa, ks, d, bare ks d (wf n), rfl, h1.held, sh5, .inl ⟨qa, sa, ks, d, bare ks d (wf n), rfl, h2.held, sh5, ⟨tq, t5, h1, h2⟩, _, rfl, ?_⟩⟩
      rw [shapeEq_self d sh5.good, Bool.true_and, dtSame_self (wok_bare sh5.ok (en4.wts n mn)).nd]
      refine ⟨_, rfl, ite2 (fun c => absurd c (by decide)) fun _ => ?_⟩
      have bc5 := bc4.same s5
      with_reducible refine testU ?_
      with_reducible refine opU ?_
      refine ⟨_, rfl, _, rfl, x, dx, _, rfl, bc5.obj, x, dx, sa, t', gs, _, rfl, bc5.rd, .inl ⟨n, rfl, _, rfl, ?_⟩⟩
      have hb : (bat gs n).isSome = true := by
        rw [bat_has, eg]
        simpa using hn
      rw [hb]
      exact ⟨_, rfl, q _ s5⟩
    obtain ⟨rfl, rfl, rfl⟩ := c
    refine ⟨by show 0 ≤ sizeLine; omega, fun L2 hL2 _ => ?_⟩
    have s5 := same_new (o := .lst []) hL2
    refine nils_ne (s5 _ _ eD4) upd_same ⟨_, rfl, ite2 (fun c => absurd c (by decide)) fun _ => ?_⟩
    have s6 := s4.trans s5
    have bc6 := bc3.same s6
    have k6 : ∀ H', Same (upd H4 L2 (.lst [])) H' → Q (.bl true) H' := fun H' z => k3 H' (s6.trans z)
    generalize upd H4 L2 (.lst []) = H6 at s6 bc6 k6 ⊢
    clear s5 s6 eD4 nD4 s4 hL2 bc3 en3 sh3 q3 eD3 k3 bD3
    -- what is not in
    with_reducible refine nxU ?_
    with_reducible refine retU ?_
    with_reducible refine opU ?_
    have kit : ∀ t ∈ bts, t ≠ "str" → PySem.W.kitOne K (.type t) (.type "str") = some false := fun t ht nt => by
      have h : ∀ t ∈ bts, t ≠ "str" → kitB t "str" = some false := by decide +kernel
      exact kit_ty (h t ht nt)
    refine lc_none (fun a xs H => Same H6 H ∧ H a = some (.lst xs) ∧ ∀ v ∈ xs, (∃ n, v = .str n ∧ n ∉ ns) ∨ ∀ H2, Same H H2 → ∃ u, TyX K H2 v u ∧ PySem.W.kitOne K u (.type "str") = some false) (fun R h => ?_) (fun a xs H c => .inr (SqL.of c.2.1)) (fun a xs H c v hv H7 Q' s7 q => ?_) (fun a xs H c D4 H7 s7 nD4 eD4 => ?_)
    · refine ⟨by show 1 ≤ sizeLine; decide, fun b1 h1 => ?_⟩
      refine ⟨by show 1 ≤ sizeLine; decide, fun b2 h2 _ => ?_⟩
      intro b3 h3
      refine ⟨_, rfl, by show 10 ≤ sizeLine; decide, fun L hL _ => ?_⟩
      have z1 := same_new (o := .tup [.str "q"]) h1
      have z2 := same_new (o := .lst [.str "q"]) h2
      have z3 := same_new (o := .dK []) h3
      have z4 := same_new (o := .lst [.str "none", .str "new", .str "", .non, .int 0, .bl true, .ref b1, .ref b2, .ref b3, .ref x]) hL
      have za := ((z1.trans z2).trans z3).trans z4
      refine h L _ _ ⟨za, upd_same, fun v hv => ?_⟩
      simp only [List.mem_cons, List.not_mem_nil, or_false] at hv
      rcases hv with rfl | rfl | rfl | rfl | rfl | rfl | rfl | rfl | rfl | rfl
      · exact .inl ⟨_, rfl, fun m => absurd (names _ m) (by decide)⟩
      · exact .inl ⟨_, rfl, nw⟩
      · exact .inl ⟨_, rfl, fun m => absurd (names _ m) (by decide)⟩
      · exact .inr fun H2 _ => ⟨_, .base .non, kit "NoneType" (by decide) (by decide)⟩
      · exact .inr fun H2 _ => ⟨_, .base (.int 0), kit "int" (by decide) (by decide)⟩
      · exact .inr fun H2 _ => ⟨_, .base (.bl true), kit "bool" (by decide) (by decide)⟩
      · exact .inr fun H2 s => ⟨_, .base (.tup (s _ _ (z4 _ _ (z3 _ _ (z2 _ _ upd_same))))), kit "tuple" (by decide) (by decide)⟩
      · exact .inr fun H2 s => ⟨_, .base (.lst (s _ _ (z4 _ _ (z3 _ _ upd_same)))), kit "list" (by decide) (by decide)⟩
      · exact .inr fun H2 s => ⟨_, .base (.dK (s _ _ (z4 _ _ upd_same))), kit "dict" (by decide) (by decide)⟩
      · refine .inr fun H2 s => ?_
        obtain ⟨ty, _⟩ := ins_kit T.o_Book T.o_Book T.k_Book (show InsOf K H2 "Book" x from ⟨_, _, s _ _ (za _ _ bc6.obj)⟩) (by decide)
        exact ⟨_, ty, (T.o_Book.kitT "str" (by decide)).2.1⟩
    · obtain ⟨c1, c2, c3⟩ := c
      have bc7 := bc6.same (c1.trans s7)
      with_reducible refine testU ?_
      with_reducible refine opU ?_
      refine ⟨_, rfl, _, rfl, x, dx, _, rfl, bc7.obj, x, dx, sa, t', gs, _, rfl, bc7.rd, ?_⟩
      rcases c3 v hv with ⟨n, rfl, hn⟩ | h
      · refine .inl ⟨n, rfl, _, rfl, ?_⟩
        have hb : (bat gs n).isSome = false := by
          rw [bat_has, eg]
          cases c : ys.contains n with
          | false => rfl
          | true => exact absurd (pm.mem_iff.mp (by simpa using c)) hn
        rw [hb]
        exact ⟨_, rfl, q _ fun _ _ z => z⟩
      · obtain ⟨u, ty, ki⟩ := h H7 s7
        exact .inr ⟨u, ty, ki, _, rfl, _, rfl, q _ fun _ _ z => z⟩
    · obtain ⟨c1, c2, c3⟩ := c
      refine ⟨by show 0 ≤ sizeLine; omega, fun L hL _ => ?_⟩
      have sL := same_new (o := .lst []) hL
      exact nils_eq (sL _ _ eD4) upd_same (k6 _ ((c1.trans s7).trans sL))
end
end L2.K20
set_option Elab.async false
set_option linter.all false
set_option maxRecDepth 100000
set_option maxHeartbeats 4000000
/-! Pairs of keys and values that are made. -/
namespace L2.RV
open PySem PySem.Spec PyProof.Rows
/-- all stays but lists and what is locked -/
def SameX (H H' : Hp) : Prop := ∀ b o, (∀ xs, o ≠ .lst xs) → (∀ od u, o ≠ .frz od u) → H b = some o → H' b = some o
theorem SameX.of {H H' : Hp} (s : Same H H') : SameX H H' := fun b o _ _ e => s b o e
theorem SameX.trans {H H1 H2 : Hp} (a : SameX H H1) (b : SameX H1 H2) : SameX H H2 := fun c o n1 n2 e => b c o n1 n2 (a c o n1 n2 e)
theorem SameX.lst {H : Hp} {D : Addr} {xs ys : List V} (e : H D = some (.lst xs)) : SameX H (upd H D (.lst ys)) := fun b o n1 _ h => (upd_ne fun z => by rw [z, e] at h; exact n1 _ (Option.some.inj h).symm).trans h
theorem SameX.unlock {H : Hp} {t : Addr} {od : Obj} {u : HO} (e : H t = some (.frz od u)) : SameX H (upd H t u) := fun b o _ n2 h => (upd_ne fun z => by rw [z, e] at h; exact n2 _ _ (Option.some.inj h).symm).trans h
/-- [(k, e) for k in d if p(k)], e may make objects: what G says of each -/
theorem lc_pairsG {ti : TI} {te : TE} {tt : TT} {j : Nat} {σ : L2.St} {H : Hp} {Q : VK} {t : Addr} {kvs : List (L2.Key × V)} (p : L2.Key → Bool) (G : L2.Key → V → Hp → Prop) (mono : ∀ k v H1 H2, SameX H1 H2 → G k v H1 → G k v H2) (e : H t = some (.dK kvs)) (small : kvs.length ≤ 1000) (hj : j < σ.length)
    (hi : ∀ od (R : It → Hp → Prop), R (Itk t od kvs) (upd H t (.frz od (.dK kvs))) → ti σ (upd H t (.frz od (.dK kvs))) R)
    (ht : ∀ (od : Obj) (key : L2.Key) (v : V), (key, v) ∈ kvs → ∀ (H1 : Hp) (Q' : Bool → Hp → Prop), Same (upd H t (.frz od (.dK kvs))) H1 → Q' (p key) H1 → tt ((wipe σ [j]).set j (some (kV key))) H1 Q')
    (hv : ∀ (od : Obj) (key : L2.Key) (v : V), (key, v) ∈ kvs → p key = true → ∀ (H1 : Hp) (Q' : VK), Same (upd H t (.frz od (.dK kvs))) H1 → (∀ H2 u, Same H1 H2 → G key u H2 → Q' u H2) → te ((wipe σ [j]).set j (some (kV key))) H1 Q')
    (k : ∀ D qs us H', Same H H' → H D = none → H' D = some (.lst (qs.map V.ref)) → Paired (PairK H') qs us → us.map (·.1) = (kvs.map (·.1)).filter p → (∀ u ∈ us, G u.1 u.2 H') → Q (.ref D) H') {vs : List Nat} (evs : vs = [j] := by rfl) : tLockE (tLc ti (gName j) tt (tTup (tCons (tVar j) (tCons te tNil))) vs) σ H Q := by
  subst evs
  refine ⟨t, .dK kvs, e, True.intro, fun od => ?_⟩
  refine hi od _ (fun D hD => ?_)
  refine lc_it walk_keys (fun i H' => ∃ (qs : List Addr) (us : List (L2.Key × V)), H' D = some (.lst (qs.map V.ref)) ∧ Paired (PairK H') qs us ∧ us.map (·.1) = ((kvs.take i).map (·.1)).filter p ∧ (∀ u ∈ us, G u.1 u.2 H') ∧ Same (upd H t (.frz od (.dK kvs))) H') ⟨[], [], upd_same, .nil, rfl, (fun _ h => absurd h List.not_mem_nil), same_new hD⟩ (fun i H' _ e => by obtain ⟨_, _, _, _, _, _, sm⟩ := e; exact sm _ _ upd_same) (fun i x H2 H3 lt e y => ?_) (fun H' e => ?_)
  · obtain ⟨qs, us, hDl, pr, ek, g, sm⟩ := e
    obtain ⟨rfl, key, v, hkv, rfl⟩ := y
    have mk : (key, v) ∈ kvs := List.mem_of_getElem? hkv
    have lq := pr.length
    have lw : j < (wipe σ [j]).length := by rw [wipe_length]; exact hj
    have et : (kvs.take (i + 1)).map (·.1) = (kvs.take i).map (·.1) ++ [key] := by rw [take_snoc hkv, List.map_append]; rfl
    refine ⟨wipe_set1 σ j _, ht od key v mk _ _ sm ?_⟩
    cases c : p key with
    | false =>
      rw [if_neg (by decide), et, List.filter_append, List.filter_cons_of_neg (by rw [c]; decide), List.filter_nil, List.append_nil]
      exact ⟨qs, us, hDl, pr, ek, g, sm⟩
    | true =>
      rw [if_pos rfl]
      refine ⟨kV key, List.getElem?_set_self lw, hv od key v mk c _ _ sm fun H4 u s4 gu => ⟨by show 2 ≤ sizeLine; decide, fun q nq => ?_⟩⟩
      have hD4 := s4 _ _ hDl
      have nD : D ≠ q := fun z => by rw [z, nq] at hD4; cases hD4
      have sq := same_new (o := .tup [kV key, u]) nq
      refine ⟨_, (upd_ne nD).trans hD4, ?_, qs ++ [q], us ++ [(key, u)], ?_, ?_, ?_, fun w hw => ?_, fun c' o ec => ?_⟩
      · have z := List.length_filter_le p ((kvs.take i).map (·.1))
        have z2 := congrArg List.length ek
        rw [List.length_map] at z2
        rw [List.length_map, List.length_take] at z
        rw [List.length_map, lq, z2, sizeLine_eq]
        omega
      · rw [upd_same, List.map_append]
        rfl
      · have up : ∀ {c : Addr} {xs : List V}, H4 c = some (.tup xs) → (upd (upd H4 q (.tup [kV key, u])) D (.lst (qs.map V.ref ++ [V.ref q]))) c = some (.tup xs) := fun {c xs} e => by
          have n1 : c ≠ D := fun z => by rw [z, hD4] at e; cases e
          exact (upd_ne n1).trans (sq _ _ e)
        exact Paired.snoc (Paired.mapP pr fun u v z => up (s4 _ _ z)) ((upd_ne (Ne.symm nD)).trans upd_same)
      · rw [et, List.filter_append, List.filter_cons_of_pos c, List.filter_nil, List.map_append, ek]
        rfl
      · have nh : (upd H4 q (.tup [kV key, u])) D = some (.lst (qs.map V.ref)) := (upd_ne nD).trans hD4
        have x4 := (SameX.of sq).trans (SameX.lst (ys := qs.map V.ref ++ [V.ref q]) nh)
        rcases List.mem_append.mp hw with hw | hw
        · exact mono _ _ _ _ ((SameX.of s4).trans x4) (g w hw)
        · rw [List.mem_singleton.mp hw]
          exact mono _ _ _ _ x4 gu
      · have n1 : c' ≠ D := ne_of_none ec hD
        exact (upd_ne n1).trans (sq _ _ (s4 _ _ (sm _ _ ec)))
  · obtain ⟨qs, us, hDl, pr, ek, g, sm⟩ := e
    rw [List.take_length] at ek
    obtain ⟨n, fr⟩ := unlock_free hD
    refine ⟨sm _ _ upd_same, k D qs us _ (unlock_same e sm) fr ((upd_ne n).trans hDl) (Paired.mapP pr fun u v z => ?_) ek fun u hu => mono _ _ _ _ (SameX.unlock (sm _ _ upd_same)) (g u hu)⟩
    have nt : u ≠ t := fun q => by
      have := sm _ _ (upd_same (a := t))
      rw [← q] at this
      unfold PairK at z
      rw [this] at z
      cases z
    exact (upd_ne nt).trans z
end L2.RV
set_option Elab.async false
set_option linter.all false
set_option maxRecDepth 100000
set_option maxHeartbeats 4000000
/-! != of two dicts by texts and numbers; their values numbers; dict(pairs). -/
namespace L2.RV
open PySem PySem.Spec PyProof.Rows
section
variable {X : Cx} {n : Nat} {D : EqB} {pins : List (Addr × Obj)} {σ : L2.St} {H : Hp} {s : Shared}
/-- a != b, dicts by texts and numbers -/
def rNeB (D : EqB) : R2 := fun x y H Q => ∃ a b ks ls f, x = .ref a ∧ y = .ref b ∧ a ≠ b ∧ H a = some (.dK ks) ∧ H b = some (.dK ls) ∧ (∀ oa ob k v u, (k, v) ∈ ks → valV ls k = some u → D v u (upd (upd H a (.frz oa (.dK ks))) b (.frz ob (.dK ls))) (f k v u)) ∧ Q (.bl (!dkSame f ks ls)) H
theorem op_neB (hD : EqW X n D) (hr : Room (n + 1) X.A) : OpR X (compareOp .NotEq) (rNeB D) := by
  intro pins s σ H x y v u Q I rx ry h
  obtain ⟨a, b, ks, ls, f, rfl, rfl, nab, ea, eb, hf, q⟩ := h
  cases (show v = Value.ref a from rx)
  cases (show u = Value.ref b from ry)
  have na := I.nofrz ea True.intro
  have nb := I.nofrz eb True.intro
  obtain ⟨oa, I1⟩ := I.lock ea True.intro
  obtain ⟨ob, I2⟩ := I1.lock (show (upd H a (.frz oa (.dK ks))) b = some (.dK ls) from (upd_ne (Ne.symm nab)).trans eb) True.intro
  have fa : (upd (upd H a (.frz oa (.dK ks))) b (.frz ob (.dK ls))) a = some (.frz oa (.dK ks)) := (upd_ne nab).trans upd_same
  have fb : (upd (upd H a (.frz oa (.dK ks))) b (.frz ob (.dK ls))) b = some (.frz ob (.dK ls)) := upd_same
  have back : upd (upd (upd (upd H a (.frz oa (.dK ks))) b (.frz ob (.dK ls))) b (.dK ls)) a (.dK ks) = H := by
    funext c
    by_cases c1 : c = a
    · rw [c1, upd_same, ea]
    · rw [upd_ne c1]
      by_cases c2 : c = b
      · rw [c2, upd_same, eb]
      · rw [upd_ne c2, upd_ne c2, upd_ne c1]
  obtain ⟨_, ga, xa, _⟩ := frz_in I2 fa
  obtain ⟨_, gb, xb, _⟩ := frz_in I2 fb
  have ta : s.TypeIs (.ref a) "dict" := ⟨_, ga, xa.1⟩
  have tb : s.TypeIs (.ref b) "dict" := ⟨_, gb, xb.1⟩
  refine wpAny_richCompare_same_room (op := .NotEq) ta tb PySem.F.slot_dict_ne (wpAny_call_entry PySem.F.slot_dict_ne ta PySem.F.entry_dict_ne ?_ (PySem.F.args_dict_ne_2 _ _)) hr.units0
  show wpAny _ _ (Builtin.Dict.dictSlotArgs "__ne__" ⟨[.ref a, .ref b], []⟩ >>= _) _ _ s
  unfold Builtin.Dict.dictSlotArgs
  refine wpAny_bind (wpAny_bind (wpAny_notOrdered_dict ta ?_))
  show wpAny _ _ (pure (Value.ref a, Value.ref b)) _ _ s
  refine wpAny_pure (wpAny_bind (wpAny_isInstance (T := "dict") tb PySem.F.sub_dict_dict ?_))
  simp only [Bool.not_true, Bool.false_eq_true, if_false]
  refine wpAny_bind (wpAny_pure (wpAny_bind (wpAny_pure (wpAny_bind (same_pairsB (Sub.in1 ⟨hr, rfl⟩) hD f I2 fa fb (hf oa ob) fun t J => ?_)))))
  have J1 := J.unlock fb (fun o u z => nb o u z)
  have J2 := J1.unlock (show (upd (upd (upd H a (.frz oa (.dK ks))) b (.frz ob (.dK ls))) b (.dK ls)) a = some (.frz oa (.dK ks)) from (upd_ne nab).trans fa) (fun o u z => na o u z)
  rw [back] at J2
  refine wpAny_pure ⟨_, rfl, (fun z => nomatch z), ?_⟩
  exact ⟨.bl (!dkSame f ks ls), H, J2, (by show (_ : Value) = _; simp), q⟩
/-- numbers -/
def DInt : EqB := fun x y _ b => ∃ i j, x = .int i ∧ y = .int j ∧ b = decide (x = y)
theorem eqW_int : EqW X n DInt := by
  intro B pins s σ H x y u v b sb I rx ry d
  obtain ⟨i, j, rfl, rfl, rfl⟩ := d
  obtain ⟨t, rfl⟩ := (show ∃ t, u = Value.int i t from rx)
  obtain ⟨t', rfl⟩ := (show ∃ t, v = Value.int j t from ry)
  have e : decide (V.int i = V.int j) = (i == j) := by
    by_cases h : i = j
    · subst h; simp
    · simp [h]
  rw [e]
  exact SeqAt.EqAt.int_int i t j t' X.prog X.w X.xe _ ⟨rfl, I⟩
theorem call_dictPK {K : PySem.W.Frag} (hK : X.K = K) (hcalm : X.calm = true) : CallR X (.type "dict") (fun xs H Q => ∃ (a : Addr) (ps : List Addr) (kvs : List (L2.Key × V)), xs = [.ref a] ∧ SqL K H a (ps.map V.ref) ∧ Paired (fun p kv => SqT K H p [kV kv.1, kv.2]) ps kvs ∧ ∀ p, H p = none → Q (.ref p) (upd H p (.dK (mergeK [] kvs)))) := hK ▸ call_dictP hcalm
end
theorem mergeK_new : ∀ (more kvs : List (L2.Key × V)), ((kvs ++ more).map (·.1)).Nodup → mergeK kvs more = kvs ++ more
  | [], kvs, _ => (List.append_nil _).symm
  | m :: more, kvs, h => by
    have no : valV kvs m.1 = none := by
      unfold valV
      rw [List.find?_eq_none.mpr]
      · rfl
      · intro kv hk q
        rw [List.map_append, List.map_cons] at h
        exact (List.nodup_append.mp h).2.2 kv.1 (List.mem_map_of_mem hk) m.1 List.mem_cons_self (of_decide_eq_true q)
    show mergeK (putK kvs m.1 m.2) more = _
    rw [putK_new _ no, mergeK_new more _ (by rw [List.append_assoc]; exact h), List.append_assoc]
    rfl
/-- numbers by names -/
def nmD (g : Str → Int) (ns : List Str) : List (L2.Key × V) := ns.map fun n => (Sum.inr n, V.int (g n))
theorem valV_nmD (g : Str → Int) (n : Str) : ∀ ns : List Str, n ∈ ns → valV (nmD g ns) (Sum.inr n) = some (V.int (g n))
  | [], h => absurd h List.not_mem_nil
  | m :: ns, h => by
    unfold nmD
    rw [List.map_cons]
    by_cases e : m = n
    · rw [valV_pos (by rw [e])]
      rw [e]
    · rw [valV_neg (by exact fun q => e (Sum.inr.inj q))]
      exact valV_nmD g n ns ((List.mem_cons.mp h).resolve_left fun q => e q.symm)
theorem dkSame_nmD (g : Str → Int) {ns ms : List Str} (p : ns.Perm ms) : dkSame (fun _ v u => decide (v = u)) (nmD g ns) (nmD g ms) = true := by
  unfold dkSame
  rw [Bool.and_eq_true]
  refine ⟨?_, List.all_eq_true.mpr fun kv hk => ?_⟩
  · unfold nmD
    rw [List.length_map, List.length_map, p.length_eq]
    exact beq_self_eq_true _
  · obtain ⟨n, hn, rfl⟩ := List.mem_map.mp hk
    dsimp only
    rw [valV_nmD g n ms (p.mem_iff.mp hn)]
    exact decide_eq_true rfl
end L2.RV
set_option Elab.async false
set_option linter.all false
set_option maxRecDepth 100000
set_option maxHeartbeats 4000000
/-! What a book answers, looked at. -/
namespace L2.K20
open PySem PySem.Spec PyProof.Rows L2.RV
theorem us_nmD {g : Str → Int} : ∀ {us : List (L2.Key × V)} {ns : List Str}, us.map (·.1) = ns.map Sum.inr → (∀ u ∈ us, ∃ n, u.1 = Sum.inr n ∧ u.2 = V.int (g n)) → us = nmD g ns
  | [], [], _, _ => rfl
  | [], _ :: _, e, _ => by cases e
  | _ :: _, [], e, _ => by cases e
  | (k, v) :: us, n :: ns, e, h => by
    rw [List.map_cons, List.map_cons] at e
    obtain ⟨e1, e2⟩ := List.cons.inj e
    obtain ⟨m, h1, h2⟩ := h (k, v) List.mem_cons_self
    dsimp only at e1 h1 h2
    have mn : m = n := Sum.inr.inj (h1.symm.trans e1)
    rw [us_nmD e2 fun u hu => h u (List.mem_cons_of_mem _ hu)]
    unfold nmD
    rw [List.map_cons, ← mn, h1, h2]
theorem keys_bD (es : BL) : (bD es).map (·.1) = (es.map (·.1)).map Sum.inr := by unfold bD; rw [List.map_map, List.map_map]; rfl
theorem nd_inr {ns : List Str} (nd : ns.Nodup) : (ns.map (Sum.inr : Str → L2.Key)).Nodup := List.Pairwise.map _ (fun _ _ n z => n (Sum.inr.inj z)) nd
/-- _law_answers_right(pen, book, shape, entries) -/
def spAnswers (K : PySem.W.Frag) : Sp := fun vs H Q _ => ∃ (p l : Addr) (nn : List Int) (a r : Int) (x t' s t : Addr) (ks : List Str) (d : Nat) (ls ns : List Str) (wf : WF), vs = [.ref p, .ref x, .ref s, .ref t] ∧ PenAt H p l nn a r ∧ a ≤ 80000 ∧ ShapeAt K H s ks d ∧ EntIs H t ks d ns wf ∧ BookIs K H x t' s ks d ls (fun n => bare ks d (wf n)) ∧ ls.Perm ns ∧
  ∀ H' a' r', Keep p H H' → PenAt H' p l nn a' r' → a' ≤ a + 120 → Q (.bl true) H'
section
variable {P : Program} {w : World} {K : PySem.W.Frag} {mg : Str → Option Value} {base : Heap} {fd : FuncData}
theorem ok_law_answers_right (T : Top w K mg) (D_law_weights : Def P w K mg base "_law_weights" 3 ["_law_pen_here", "_law_shape_here"] (spLWeights K)) (D_law_sum : Def P w K mg base "_law_sum" 1 ["_law_shape_here", "_law_weights_here", "_law_amounts"] (spLSum K)) (C_Table : MakeX (L2.CX P w) P w K mg base "Table" (He.ga K "Table") 5 ["self", "shape", "amounts"] [] (spTable K)) (CO_Book : CallX (L2.CX P w) P w K mg base (He.ga K "Book") 8 ["self", "table"] ["table"] (spBookCall K)) (F : Fn K "_law_answers_right" s_law_answers_right fd) : FnOk P w K mg base CX0 10 (He.ga K "_law_answers_right") fd ["_law_pen_here", "_law_book_here", "_law_shape_here", "_law_entries_here"] (spAnswers K) := by
  refine F.ok sc_law_answers_right (fun vs H Q E h => ?_) (fun cdv A outer s H vs Q E hr h => ?_)
  · obtain ⟨p, l, nn, a, r, x, t', s, t, ks, d, ls, ns, wf, rfl, _⟩ := h
    rfl
  · obtain ⟨p, l, nn, a, r, x, t', sa, t, ks, d, ls, ns, wf, rfl, pen, ha, s0, en, bi, pm, k⟩ := h
    have hu := hr.units
    have few := en.few
    refine ⟨_, PSs.nox (pss_cons (ps_set (i := 4) sc_law_answers_right.nd rfl (by first | exact Or.inl rfl | exact Or.inr rfl) (pe_callD D_law_weights (hr.mono (by decide)) rfl (pa_cons (pv 0) (pa_cons (pv 2) pa_nil))))
      (pss_cons (ps_set (i := 5) sc_law_answers_right.nd rfl (by first | exact Or.inl rfl | exact Or.inr rfl) (pe_callTy (call_dictPK (K := K) rfl rfl) rfl T.n_dict (by decide +kernel) (pa_cons (pe_lock (pe_lc (own := [("_law_name", 6)]) (g := gName 6) (tt := tYes) (by rfl) sc_law_answers_right.nd (pi_keys (pv 3)) (blkOk_by (own := [("_law_name", 6)]) (N := ["_law_pen_here", "_law_book_here", "_law_shape_here", "_law_entries_here", "_law_amounts", "_law_due", "_law_name"]) (sc := defScope s_law_answers_right) (by decide +kernel)) (fun _ _ _ _ _ => by exact (pg_name (i := 6) sc_law_answers_right.nd rfl (by first | exact Or.inl rfl | exact Or.inr rfl))) (fun _ _ _ _ _ => by exact pts_nil) (fun _ _ _ _ _ => by exact (pe_tup (pa_cons (pv 6) (pa_cons (pe_callD D_law_sum (hr.mono (by decide)) rfl (pa_cons (pv 2) (pa_cons (pe_dget (Nat.lt_of_le_of_lt (Nat.add_le_add_left (by decide) _) hu) (pv 3) (pv 6) (fun _ _ => rfl)) (pa_cons (pv 4) pa_nil)))) pa_nil)))))) pa_nil)))
      (pss_one (ps_ret (pe_and (pe_cmpR (op_eqB (eqW_int (n := 0)) (hr.mono (by decide))) (pe_callOX CO_Book (hr.mono (by decide)) pass_E0 (pv 1) (pa_cons (pe_mkX C_Table (hr.mono (by decide)) rfl pass_E0 (pa_cons (pv 2) (pa_cons (pv 4) pa_nil))) pa_nil)) (pv 5) (nomark _)) (pe_one (pe_cmpR (op_eqB (eqW_int (n := 0)) (hr.mono (by decide))) (pe_callKX CO_Book (hr.mono (by decide)) pass_E0 (pv 1) (pk_cons (pe_mkX C_Table (hr.mono (by decide)) rfl pass_E0 (pa_cons (pv 2) (pa_cons (pv 4) pa_nil))) pk_nil)) (pv 5) (nomark _)))))))), ?_⟩
    with_reducible refine setsU ?_
    refine ⟨_, rfl, _, rfl, p, l, nn, a, r, sa, ks, d, rfl, pen, by omega, s0, fun H1 a1 r1 u am k1 pen1 la1 hu0 eu wa => ?_⟩
    have sh1 := s0.kp (.pen k1 pen.pen)
    have en1 := en.pen k1 pen.pen
    have bi1 := bi.pen k1 pen.pen
    obtain ⟨es, e1, e2, e3⟩ := en1.ex
    have le : es.length = ns.length := by rw [← e2, List.length_map]
    with_reducible refine setsU ?_
    refine cb1U ?_
    refine lc_pairsG (fun _ => true) (fun key v _ => ∃ n, key = Sum.inr n ∧ v = V.int (sumL ks d (wf n) am)) (fun _ _ _ _ _ h => h) e1 (by rw [bD_length]; omega) (by show 6 < 7; decide) (fun od R r => ⟨_, rfl, t, od, rfl, .inl ⟨bD es, upd_same, r⟩⟩) (fun od key v _ H3 Q' _ q => q) (fun od key v m _ H2 Q' sm q => ?_) (fun D qs us H2 s2 nD eD pr ek g => ?_)
    · obtain ⟨z, hz, ez⟩ := List.mem_map.mp m
      cases ez
      have vb : valV (bD es) (Sum.inr z.1) = some (.ref z.2) := by
        rw [valV_bD, bat_mem (by rw [e2]; exact en1.nd) hz]
        rfl
      have nt : ∀ {b o}, H1 b = some o → (∀ kvs, o ≠ .dK kvs) → H2 b = some o := fun {b o} h n => sm _ _ ((upd_ne fun q => by rw [q, e1] at h; exact n _ (Option.some.inj h).symm).trans h)
      have m1 : z.1 ∈ ns := by rw [← e2]; exact List.mem_map_of_mem hz
      refine ⟨_, rfl, _, rfl, _, rfl, t, .ref z.2, rfl, .inl ⟨_, Sum.inr z.1, .inr ⟨od, sm _ _ upd_same⟩, rfl, vb.symm⟩, _, rfl, sa, z.2, u, ks, d, wf z.1, am, rfl, sh1.kp ((Kp.lockK (od := od) e1).trans (Kp.of sm)), nt (e3 z hz) (fun _ q => nomatch q), nt eu (fun _ q => nomatch q), (en1.wts _ m1).bits, wa.bits, fun H3 s3 => q H3 _ s3 ⟨z.1, rfl, rfl⟩⟩
    rw [filt_all, keys_bD, e2] at ek
    have eus : us = nmD (fun n => sumL ks d (wf n) am) ns := us_nmD ek g
    have nk : (us.map (·.1)).Nodup := by rw [ek]; exact nd_inr en1.nd
    refine ⟨D, qs, us, rfl, SqL.of eD, Paired.mapP pr fun _ _ h => SqT.of h, fun D2 hD2 => ?_⟩
    rw [mergeK_new us [] nk, List.nil_append, eus]
    have s3 := s2.trans (same_new (o := .dK (nmD (fun n => sumL ks d (wf n) am) ns)) hD2)
    have eD2 : (upd H2 D2 (.dK (nmD (fun n => sumL ks d (wf n) am) ns))) D2 = some (.dK (nmD (fun n => sumL ks d (wf n) am) ns)) := upd_same
    have sh3 := sh1.kp (.of s3)
    have bi3 := bi1.same s3
    have eu3 := s3 _ _ eu
    have k3 : ∀ H', Same (upd H2 D2 (.dK (nmD (fun n => sumL ks d (wf n) am) ns))) H' → Q (.bl true) H' := fun H' z => k H' a1 r1 (k1.trans (Keep.of (s3.trans z))) (pen1.same (s3.trans z)) la1
    generalize upd H2 D2 (.dK (nmD (fun n => sumL ks d (wf n) am) ns)) = H3 at s3 eD2 sh3 bi3 eu3 k3 ⊢
    show tRet _ _ [some (.ref p), some (.ref x), some (.ref sa), some (.ref t), some (.ref u), some (.ref D2), none] H3
    with_reducible refine retU ?_
    obtain ⟨dx, gs, bc, eg, q3⟩ := bi3.ex
    have lg : gs.length = ls.length := by rw [← eg, List.length_map]
    have few2 := bi3.few
    have wok : ∀ z ∈ gs, WOk ks d (bare ks d (wf z.1)) := fun z hz => bi3.wok z.1 (by rw [← eg]; exact List.mem_map_of_mem hz)
    have out : (gs.map fun z => ((Sum.inr z.1 : L2.Key), V.int (total (bare ks d (wf z.1)) (bare ks d am)))) = nmD (fun n => sumL ks d (wf n) am) ls := by
      unfold nmD
      rw [← eg, List.map_map]
      refine List.map_congr_left fun z _ => ?_
      rw [total_bare sh3.ok]
      rfl
    have gnd : (gs.map (·.1)).Nodup := by rw [eg]; exact bi3.nd
    have allI : ∀ {Hx : Hp} {key : L2.Key} {v v' : V}, (key, v) ∈ nmD (fun n => sumL ks d (wf n) am) ls → valV (nmD (fun n => sumL ks d (wf n) am) ns) key = some v' → DInt v v' Hx (decide (v = v')) := fun {Hx key v v'} m hv => by
      obtain ⟨n, hn, e⟩ := List.mem_map.mp m
      cases e
      rw [valV_nmD _ _ _ (pm.mem_iff.mp hn)] at hv
      cases hv
      exact ⟨_, _, rfl, rfl, rfl⟩
    -- asked once
    refine ⟨_, rfl, _, rfl, _, rfl, _, rfl, fun y dy ny ndy nd => ?_⟩
    have sT := made_mid (o := .ins (He.ga K "Table") dy []) ny ndy
    refine ⟨y, dy, sa, .ref u, ks, d, am, rfl, upd_same, (upd_ne nd).trans upd_same, sh3.kp (.of sT), .inr ⟨u, rfl, sT _ _ eu3⟩, wa.mem, fun H4 t4 k4 ht4 tc => ⟨rfl, ?_⟩⟩
    have s4 := made_same ny ndy k4
    have bc4 := bc.same s4
    refine ⟨.inr ⟨_, _, bc4.obj⟩, x, dx, sa, t', ks, d, gs, y, bare ks d am, fun n => bare ks d (wf n), rfl, bc4, sh3.kp (.of s4), tc.held, bare_bits wa.bits, gnd, by omega, fun z hz => ?_, fun H5 D5 s5 nD5 eD5 => ?_⟩
    · obtain ⟨tq, hq⟩ := q3 z hz
      exact ⟨tq, hq.same s4, (wok z hz).mem, (wok z hz).few, (wok z hz).bits⟩
    rw [out] at eD5
    have n5 : D5 ≠ D2 := fun q => by have := s4 _ _ eD2; rw [← q, nD5] at this; cases this
    refine ⟨_, rfl, D5, D2, _, _, fun _ v u => decide (v = u), rfl, rfl, n5, eD5, s5 _ _ (s4 _ _ eD2), (fun _ _ key v v' m hv => allI m hv), ?_⟩
    rw [dkSame_nmD _ pm]
    refine ⟨_, rfl, ite2 (fun _ => ?_) (fun c => absurd rfl c)⟩
    have s6 := s4.trans s5
    have bc6 := bc.same s6
    -- asked by the parameter's name
    refine ⟨_, rfl, x, rfl, _, rfl, _, rfl, fun y2 dy2 ny2 ndy2 nd2 => ?_⟩
    have sU := made_mid (o := .ins (He.ga K "Table") dy2 []) ny2 ndy2
    refine ⟨y2, dy2, sa, .ref u, ks, d, am, rfl, upd_same, (upd_ne nd2).trans upd_same, sh3.kp (.of (s6.trans sU)), .inr ⟨u, rfl, sU _ _ (s6 _ _ eu3)⟩, wa.mem, fun H7 t7 k7 ht7 tc7 => ⟨rfl, ?_⟩⟩
    have s7 := s6.trans (made_same ny2 ndy2 k7)
    have bc7 := bc.same s7
    refine ⟨rfl, .inr ⟨_, _, bc7.obj⟩, x, dx, sa, t', ks, d, gs, y2, bare ks d am, fun n => bare ks d (wf n), rfl, bc7, sh3.kp (.of s7), tc7.held, bare_bits wa.bits, gnd, by omega, fun z hz => ?_, fun H8 D8 s8 nD8 eD8 => ?_⟩
    · obtain ⟨tq, hq⟩ := q3 z hz
      exact ⟨tq, hq.same s7, (wok z hz).mem, (wok z hz).few, (wok z hz).bits⟩
    rw [out] at eD8
    have n8 : D8 ≠ D2 := fun q => by have := s7 _ _ eD2; rw [← q, nD8] at this; cases this
    refine ⟨_, rfl, D8, D2, _, _, fun _ v u => decide (v = u), rfl, rfl, n8, eD8, s8 _ _ (s7 _ _ eD2), (fun _ _ key v v' m hv => allI m hv), ?_⟩
    rw [dkSame_nmD _ pm]
    exact k3 H8 (s7.trans s8)
end
end L2.K20
set_option Elab.async false
set_option linter.all false
set_option maxRecDepth 100000
set_option maxHeartbeats 4000000
/-! What is asked of books, said of what they hold. -/
namespace L2.K20
open PySem PySem.Spec PyProof.Rows L2.RV
theorem bkLe_self {ks : List Str} {d : Nat} {ns ms : List Str} {wf : WF} (sub : ∀ n ∈ ns, n ∈ ms) (wok : ∀ n ∈ ns, WOk ks d (wf n)) : bkLe ns wf ms wf = true := by
  unfold bkLe
  refine List.all_eq_true.mpr fun n hn => ?_
  rw [dtSame_self (wok n hn).nd, Bool.and_true]
  simpa using sub n hn
theorem bkLe_no {ns ms : List Str} {wf wg : WF} {n : Str} (hn : n ∈ ns) (no : n ∉ ms) : bkLe ns wf ms wg = false := by
  unfold bkLe
  cases c : ns.all fun n => ms.contains n && dtSame (plD (wf n)) (plD (wg n)) with
  | false => rfl
  | true =>
    have z := List.all_eq_true.mp c n hn
    rw [Bool.and_eq_true] at z
    exact absurd (by simpa using z.1) no
section
variable {K : PySem.W.Frag} {H : Hp} {x y t t' s : Addr} {ks : List Str} {d : Nat} {ns ms : List Str} {wf wg : WF}
theorem bkSame_is (b1 : BookIs K H x t s ks d ns wf) (b2 : BookIs K H y t' s ks d ms wf) (p : ns.Perm ms) : bkSame ns wf ms wf = true := by
  unfold bkSame
  rw [p.length_eq, beq_self_eq_true, Bool.true_and]
  exact bkLe_self (ks := ks) (d := d) (fun n hn => p.mem_iff.mp hn) b1.wok
theorem BookIs.dic (b : BookIs K H x t s ks d ns wf) : ∃ es, H t = some (.dK (bD es)) := by
  obtain ⟨dx, es, c, _⟩ := b.ex
  exact ⟨es, c.dic⟩
theorem BookIs.far (b : BookIs K H x t s ks d ns wf) {H1 : Hp} {u : Addr} (same : Same H H1) (f : H1 u = none) : t ≠ u := fun q => by
  obtain ⟨es, e⟩ := b.dic
  have := same _ _ e
  rw [q, f] at this
  cases this
/-- the same of another function that tells the same -/
theorem BookIs.fn (b : BookIs K H x t s ks d ns wf) (h : ∀ n ∈ ns, wf n = wg n) : BookIs K H x t s ks d ns wg := by
  obtain ⟨dx, es, c, e, q⟩ := b.ex
  refine ⟨⟨dx, es, c, e, fun z hz => ?_⟩, b.nd, b.so, b.few, b.good, fun n hn => by rw [← h n hn]; exact b.wok n hn⟩
  rw [← h z.1 (by rw [← e]; exact List.mem_map_of_mem hz)]
  exact q z hz
end
section
variable {P : Program} {w : World} {K : PySem.W.Frag} {mg : Str → Option Value} {base : Heap} {H : Hp} {x y t t' s : Addr} {ks : List Str} {d : Nat} {ns ms : List Str} {wf wg : WF} {Q : VK} {E : XK}
theorem book_ty (T : Top w K mg) (b : BookIs K H x t s ks d ns wf) : TyX K H (.ref x) (.ref (He.ga K "Book")) ∧ PySem.W.notFirst K (He.ga K "Book") (.ref (He.ga K "Book")) = true := by
  obtain ⟨dx, fs, e⟩ := b.ins
  obtain ⟨ty, _⟩ := ins_kit T.o_Book T.o_Book T.k_Book (show InsOf K H "Book" x from ⟨_, _, e⟩) (by decide)
  exact ⟨ty, (T.o_Book.kit "Book" (by decide)).2⟩
/-- book != book: of one shape, whether they differ -/
theorem ne_books (T : Top w K mg) (b1 : BookIs K H x t s ks d ns wf) (b2 : BookIs K H y t' s ks d ms wg) (n : t ≠ t') (s0 : ShapeAt K H s ks d) (q : Q (.bl (!bkSame ns wf ms wg)) H) : rNeO K (He.ga K "Book") (spBookEq K) E (.ref x) (.ref y) H Q := by
  obtain ⟨dx, fs, e⟩ := b1.ins
  obtain ⟨ty, nf⟩ := book_ty T b2
  refine ⟨x, dx, fs, _, rfl, e, ty, nf, x, .ref y, t, s, ks, d, ns, wf, rfl, b1, s0, .inl ⟨y, t', s, ks, d, ms, wg, rfl, b2, n, s0, _, rfl, ?_⟩⟩
  rw [shapeEq_self d s0.good, Bool.true_and]
  exact q
theorem eq_books (T : Top w K mg) (b1 : BookIs K H x t s ks d ns wf) (b2 : BookIs K H y t' s ks d ms wg) (n : t ≠ t') (s0 : ShapeAt K H s ks d) (q : Q (.bl (bkSame ns wf ms wg)) H) : rEqO K (He.ga K "Book") (spBookEq K) E (.ref x) (.ref y) H Q := by
  obtain ⟨dx, fs, e⟩ := b1.ins
  obtain ⟨ty, nf⟩ := book_ty T b2
  refine ⟨x, dx, fs, _, rfl, e, ty, nf, x, .ref y, t, s, ks, d, ns, wf, rfl, b1, s0, .inl ⟨y, t', s, ks, d, ms, wg, rfl, b2, n, s0, ?_⟩⟩
  rw [shapeEq_self d s0.good, Bool.true_and]
  exact q
theorem le_books (T : Top w K mg) (b1 : BookIs K H x t s ks d ns wf) (b2 : BookIs K H y t' s ks d ms wg) (n : t ≠ t') (s0 : ShapeAt K H s ks d) (q : ∀ H', Same H H' → Q (.bl (bkLe ns wf ms wg)) H') : rEqO K (He.ga K "Book") (spBookLe K) E (.ref x) (.ref y) H Q := by
  obtain ⟨dx, fs, e⟩ := b1.ins
  obtain ⟨ty, nf⟩ := book_ty T b2
  exact ⟨x, dx, fs, _, rfl, e, ty, nf, x, y, t, t', s, ks, d, ns, ms, wf, wg, rfl, b1, b2, n, s0, q⟩
theorem or_books (b1 : BookIs K H x t s ks d ns wf) (b2 : BookIs K H y t' s ks d ms wg) (s0 : ShapeAt K H s ks d) (agree : ∀ n ∈ ns, n ∈ ms → dtSame (plD (wf n)) (plD (wg n)) = true) (few : ns.length + ms.length ≤ 12)
    (q : ∀ H' z t2 ls, Same H H' → H t2 = none → ls.Perm (ns ++ ms.filter fun n => !ns.contains n) → BookIs K H' z t2 s ks d ls (fun n => if ns.contains n = true then wf n else wg n) → Q (.ref z) H') : rBinO (He.ga K "Book") (spBookOr K) E (.ref x) (.ref y) H Q := by
  obtain ⟨dx, fs, e⟩ := b1.ins
  obtain ⟨dy, gs, e2⟩ := b2.ins
  exact ⟨x, dx, fs, y, dy, gs, rfl, rfl, e, e2, x, y, t, t', s, ks, d, ns, ms, wf, wg, rfl, b1, b2, s0, agree, few, q⟩
theorem sp_without (b : BookIs K H x t s ks d ns wf) (s0 : ShapeAt K H s ks d) {n : Str} (hn : n ∈ ns) (q : ∀ H' y t' ms, Same H H' → H t' = none → ms.Perm (ns.filter fun m => !decide (m = n)) → BookIs K H' y t' s ks d ms wf → Q (.ref y) H') : spWithout K [.ref x, .str n] H Q E := by
  obtain ⟨dx, es, c, e, hq⟩ := b.ex
  refine ⟨x, dx, s, t, ks, d, es, n, rfl, c, s0, b.ok s0 e hq, ?_, fun H' y dy t' fs sm ht pm so bc => ?_⟩
  · rw [bat_has, e]
    simpa using hn
  · have em : (es.filter fun z => !decide (z.1 = n)).map (·.1) = ns.filter fun m => !decide (m = n) := by
      rw [← e, List.filter_map]
      rfl
    have sub : ∀ m ∈ ns.filter (fun m => !decide (m = n)), m ∈ ns := fun m hm => (List.mem_filter.mp hm).1
    obtain ⟨p, bi⟩ := bookIs_of (wf := wf) (ks := ks) (d := d) bc pm so (.of_eq em) (b.nd.sublist List.filter_sublist) (Nat.le_trans (List.length_filter_le _ _) b.few) (fun z hz => let ⟨tq, h⟩ := hq z (List.mem_filter.mp hz).1; ⟨tq, h.same sm⟩) (fun m hm => b.good m (sub m hm)) (fun m hm => b.wok m (sub m hm))
    exact q H' y t' _ sm ht p bi
theorem sp_with (b : BookIs K H x t s ks d ns wf) (s0 : ShapeAt K H s ks d) {n : Str} {a tq : Addr} {ws : List (Pl × Int)} (ha : HeldX K H "Question" "weights" a s tq ws) (wo : WOk ks d ws) (ln : n.length ≤ sizeLine) (hn : isName n = true) (few : ns.length ≤ 11)
    (q : ∀ H' y t' ms, Same H H' → H t' = none → ms.Perm (n :: ns.filter fun m => !decide (m = n)) → BookIs K H' y t' s ks d ms (fun m => if m = n then ws else wf m) → Q (.ref y) H') : spWith K [.ref x, .str n, .ref a] H Q E := by
  obtain ⟨dx, es, c, e, hq⟩ := b.ex
  refine ⟨x, dx, s, t, ks, d, es, n, a, rfl, c, s0, b.ok s0 e hq, ln, hn, ⟨s, ks, d, ha.held.of, s0, shapeEq_self d s0.good⟩, fun H' y dy t' fs sm ht pm so bc => ?_⟩
  have em : ((n, a) :: es.filter fun z => !decide (z.1 = n)).map (·.1) = n :: ns.filter fun m => !decide (m = n) := by
    rw [List.map_cons, ← e, List.filter_map]
    rfl
  have out : n ∉ ns.filter fun m => !decide (m = n) := fun h => by
    have := (List.mem_filter.mp h).2
    simp at this
  have cases_ : ∀ m ∈ n :: ns.filter (fun m => !decide (m = n)), m = n ∨ (m ∈ ns ∧ m ≠ n) := fun m hm => by
    rcases List.mem_cons.mp hm with h | h
    · exact .inl h
    · obtain ⟨h1, h2⟩ := List.mem_filter.mp h
      exact .inr ⟨h1, fun q => by simp [q] at h2⟩
  obtain ⟨p, bi⟩ := bookIs_of (wf := fun m => if m = n then ws else wf m) (ks := ks) (d := d) bc pm so (.of_eq em) (List.nodup_cons.mpr ⟨out, b.nd.sublist List.filter_sublist⟩) (by
      rw [List.length_cons]
      have := List.length_filter_le (fun m => !decide (m = n)) ns
      omega) (fun z hz => by
      rcases List.mem_cons.mp hz with rfl | hz
      · exact ⟨tq, by rw [if_pos rfl]; exact ha.same sm⟩
      · obtain ⟨hz, h2⟩ := List.mem_filter.mp hz
        have : z.1 ≠ n := fun q => by simp [q] at h2
        obtain ⟨tz, h⟩ := hq z hz
        exact ⟨tz, by rw [if_neg this]; exact h.same sm⟩) (fun m hm => by
      rcases cases_ m hm with rfl | ⟨h, _⟩
      · exact ⟨ln, hn⟩
      · exact b.good m h) (fun m hm => by
      rcases cases_ m hm with rfl | ⟨h, h2⟩
      · show WOk ks d (if m = m then ws else wf m)
        rw [if_pos rfl]
        exact wo
      · show WOk ks d (if m = n then ws else wf m)
        rw [if_neg h2]
        exact b.wok m h)
  exact q H' y t' _ sm ht p bi
end
end L2.K20
set_option Elab.async false
set_option linter.all false
set_option maxRecDepth 100000
set_option maxHeartbeats 4000000
/-! A book changed, looked at. -/
namespace L2.K20
open PySem PySem.Spec PyProof.Rows L2.RV
theorem put_perm {n : Str} {ls ns : List Str} (p : ls.Perm ns) (nd : ns.Nodup) : (n :: ls.filter fun m => !decide (m = n)).Perm (if n ∈ ns then ns else ns ++ [n]) := by
  have ndl := p.nodup_iff.mpr nd
  have out : n ∉ ls.filter fun m => !decide (m = n) := fun h => by
    have := (List.mem_filter.mp h).2
    simp at this
  refine (List.perm_ext_iff_of_nodup (List.nodup_cons.mpr ⟨out, ndl.sublist List.filter_sublist⟩) ?_).mpr fun m => ?_
  · split
    · exact nd
    · rename_i h
      exact List.nodup_append.mpr ⟨nd, List.nodup_cons.mpr ⟨List.not_mem_nil, List.nodup_nil⟩, fun a ha b hb q => h (by rw [← List.mem_singleton.mp hb, ← q]; exact ha)⟩
  · rw [List.mem_cons, List.mem_filter, p.mem_iff]
    split
    · rename_i h
      constructor
      · rintro (rfl | ⟨h1, _⟩)
        · exact h
        · exact h1
      · intro hm
        by_cases c : m = n
        · exact .inl c
        · exact .inr ⟨hm, by simp [c]⟩
    · rename_i h
      rw [List.mem_append, List.mem_singleton]
      constructor
      · rintro (rfl | ⟨h1, _⟩)
        · exact .inr rfl
        · exact .inl h1
      · rintro (h1 | h1)
        · by_cases c : m = n
          · exact .inl c
          · exact .inr ⟨h1, by simp [c]⟩
        · exact .inl h1
/-- _law_changed_right(pen, book, shape, entries) -/
def spChanged (K : PySem.W.Frag) : Sp := fun vs H Q _ => ∃ (p l : Addr) (nn : List Int) (a r : Int) (x t' s t : Addr) (ks : List Str) (d : Nat) (ls ns : List Str) (wf : WF), vs = [.ref p, .ref x, .ref s, .ref t] ∧ PenAt H p l nn a r ∧ a ≤ 80000 ∧ ShapeAt K H s ks d ∧ EntIs H t ks d ns wf ∧ BookIs K H x t' s ks d ls (fun n => bare ks d (wf n)) ∧ ls.Perm ns ∧ ("new" : Str) ∉ ns ∧
  ∀ H' a' r', Keep p H H' → PenAt H' p l nn a' r' → a' ≤ a + 121 → Q (.bl true) H'
section
variable {P : Program} {w : World} {K : PySem.W.Frag} {mg : Str → Option Value} {base : Heap} {fd : FuncData}
theorem ok_law_changed_right (T : Top w K mg) (D_law_pick : Def P w K mg base "_law_pick" 2 ["_law_pen_here", "_law_some_here"] spPick) (D_law_weights : Def P w K mg base "_law_weights" 3 ["_law_pen_here", "_law_shape_here"] (spLWeights K)) (D_law_book : Def P w K mg base "_law_book" 11 ["_law_shape_here", "_law_entries_here"] (spLBook K)) (D_law_told_right : Def P w K mg base "_law_told_right" 11 ["_law_book_here", "_law_shape_here", "_law_entries_here"] (spTold K)) (S_Book_eq : MethS CX0 P w K mg base (He.ga K "Book") "__eq__" 6 ["self", "other"] (spBookEq K)) (S_Book_le : MethS (L2.CX P w) P w K mg base (He.ga K "Book") "__le__" 6 ["self", "other"] (spBookLe K)) (M_Book_without : MethX (L2.CX P w) P w K mg base (He.ga K "Book") "without" 8 ["self", "name"] (spWithout K)) (MK_Book_without : MethKX (L2.CX P w) P w K mg base (He.ga K "Book") "without" 8 ["self", "name"] ["name"] (spWithout K)) (MK_Book_with_question : MethKR (L2.CX P w) P w K mg base (He.ga K "Book") "with_question" 8 ["self", "name", "question"] ["question", "name"] (spWith K)) (C_Question : MakeX (L2.CX P w) P w K mg base "Question" (He.ga K "Question") 8 ["self", "shape", "weights"] [] (spQuestion K)) (F : Fn K "_law_changed_right" s_law_changed_right fd) : FnOk P w K mg base CX0 13 (He.ga K "_law_changed_right") fd ["_law_pen_here", "_law_book_here", "_law_shape_here", "_law_entries_here"] (spChanged K) := by
  refine F.ok sc_law_changed_right (fun vs H Q E h => ?_) (fun cdv A outer s H vs Q E hr h => ?_)
  · obtain ⟨p, l, nn, a, r, x, t', s, t, ks, d, ls, ns, wf, rfl, _⟩ := h
    rfl
  · obtain ⟨p, l, nn, a, r, x, t', sa, t, ks, d, ls, ns, wf, rfl, pen, ha, s0, en, bi, pm, nw, k⟩ := h
    have hu := hr.units
    have few := en.few
    refine ⟨_, PSs.nox (pss_cons (ps_par (i := 6) (j := 7) (by rfl) sc_law_changed_right.nd rfl rfl (by decide) rfl rfl (pa_cons (pe_callD D_law_pick (hr.mono (by decide)) rfl (pa_cons (pv 0) (pa_cons (pe_lstN (pa_cons pe_str (pa_cons pe_str (pa_cons pe_str pa_nil)))) pa_nil))) (pa_cons (pe_callD D_law_weights (hr.mono (by decide)) rfl (pa_cons (pv 0) (pa_cons (pv 2) pa_nil))) pa_nil)) (by rfl))
      (pss_cons (ps_set (i := 4) sc_law_changed_right.nd rfl (by first | exact Or.inl rfl | exact Or.inr rfl) (pe_callTy call_dictD rfl T.n_dict (by decide +kernel) (pa_cons (pv 3) pa_nil)))
      (pss_cons (ps_asg (pv 7) (pg_sub (pv 4) (pv 6) (set_dict (Nat.lt_of_le_of_lt (Nat.add_le_add_left (by decide) _) hu))))
      (pss_cons (ps_if (pt_cmpR (op_neO S_Book_eq T.o_Book.obj T.o_Book.ne (hr.mono (by decide)) pass_CX0) (pe_mKR (E := E0) MK_Book_with_question T.k_Book (hr.mono (by decide)) pass_E0 (pv 1) (pk_cons (pe_mkX C_Question (hr.mono (by decide)) rfl pass_E0 (pa_cons (pv 2) (pa_cons (pv 7) pa_nil))) (pk_cons (pv 6) pk_nil))) (pe_callD D_law_book (hr.mono (by decide)) rfl (pa_cons (pv 2) (pa_cons (pv 4) pa_nil))) (nomark _)) (pss_one (ps_ret pe_bl)) pss_nil)
      (pss_cons (ps_for PassesOwn.never rfl (pi_sqK (K := K) rfl (pe_callTy (call_listD rfl) rfl T.n_list (by decide +kernel) (pa_cons (pv 3) pa_nil))) (pg_name (i := 5) sc_law_changed_right.nd rfl (by first | exact Or.inl rfl | exact Or.inr rfl)) (pss_cons (ps_set (i := 8) sc_law_changed_right.nd rfl (by first | exact Or.inl rfl | exact Or.inr rfl) (pe_callTy (call_dictPK (K := K) rfl rfl) rfl T.n_dict (by decide +kernel) (pa_cons (pe_lock (pe_lc (own := [("_law_one", 9)]) (g := gName 9) (by rfl) sc_law_changed_right.nd (pi_keys (pv 3)) (blkOk_by (own := [("_law_one", 9)]) (N := ["_law_pen_here", "_law_book_here", "_law_shape_here", "_law_entries_here", "_law_more", "_law_gone", "_law_name", "_law_weights_here", "_law_less", "_law_one"]) (sc := defScope s_law_changed_right) (by decide +kernel)) (fun _ _ _ _ _ => by exact (pg_name (i := 9) sc_law_changed_right.nd rfl (by first | exact Or.inl rfl | exact Or.inr rfl))) (fun _ _ _ _ _ => by exact (pts_one (pt_cmpR (op_diffK (K := K) rfl hu) (pv 9) (pv 5) (nomark _)))) (fun _ _ _ _ _ => by exact (pe_tup (pa_cons (pv 9) (pa_cons (pe_dget (Nat.lt_of_le_of_lt (Nat.add_le_add_left (by decide) _) hu) (pv 3) (pv 9) (fun _ _ => rfl)) pa_nil)))))) pa_nil)))
      (pss_cons (ps_if (PW.pt (pw_or (pt_cmpR (op_neO S_Book_eq T.o_Book.obj T.o_Book.ne (hr.mono (by decide)) pass_CX0) (pe_mX (E := E0) M_Book_without T.k_Book (hr.mono (by decide)) pass_E0 (pv 1) (pa_cons (pv 5) pa_nil)) (pe_callD D_law_book (hr.mono (by decide)) rfl (pa_cons (pv 2) (pa_cons (pv 8) pa_nil))) (nomark _)) (pw_or1 (pt_not (pt_cmpR (op_leO S_Book_le (hr.mono (by decide)) pass_E0) (pe_mKX (E := E0) MK_Book_without T.k_Book (hr.mono (by decide)) pass_E0 (pv 1) (pk_cons (pv 5) pk_nil)) (pv 1) (nomark _)))))) (pss_one (ps_ret pe_bl)) pss_nil)
      (pss_one (ps_if (pt_cmpR (op_leO S_Book_le (hr.mono (by decide)) pass_E0) (pv 1) (pe_mX (E := E0) M_Book_without T.k_Book (hr.mono (by decide)) pass_E0 (pv 1) (pa_cons (pv 5) pa_nil)) (nomark _)) (pss_one (ps_ret pe_bl)) pss_nil)))))
      (pss_one (ps_ret (pe_callD D_law_told_right (hr.mono (by decide)) rfl (pa_cons (pv 1) (pa_cons (pv 2) (pa_cons (pv 3) pa_nil))))))))))), ?_⟩
    -- a name and weights are drawn
    with_reducible refine seqU ?_
    refine ⟨_, rfl, by show 3 ≤ sizeLine; decide, fun L hL _ => ?_⟩
    have sL := same_new (o := .lst [.str "q", .str "new", .str "zz"]) hL
    have nL : L ≠ p := fun z => by rw [z, pen.pen] at hL; cases hL
    refine ⟨p, l, L, nn, a, r, _, rfl, pen.same sL, by omega, upd_same, nL, (by show 0 < 3; decide), (by show 3 < 1000000; decide), fun H1 a1 r1 v k1 pen1 la1 hv => ?_⟩
    obtain ⟨n, rfl, hn⟩ : ∃ n, v = V.str n ∧ n ∈ entNames := by
      simp only [List.mem_cons, List.not_mem_nil, or_false] at hv
      rcases hv with rfl | rfl | rfl <;> exact ⟨_, rfl, by decide⟩
    have kp1 := (Keep.of (p := p) sL).trans k1
    have sh1 := s0.kp (.pen kp1 pen.pen)
    refine ⟨_, rfl, _, rfl, p, l, nn, a1, r1, sa, ks, d, rfl, pen1, by omega, sh1, fun H2 a2 r2 u ws k2 pen2 la2 hu0 eu wu => ?_⟩
    have kp2 := kp1.trans k2
    have sh2 := s0.kp (.pen kp2 pen.pen)
    have en2 := en.pen kp2 pen.pen
    have bi2 := bi.pen kp2 pen.pen
    have kk : ∀ H', Same H2 H' → Q (.bl true) H' := fun H' z => k H' a2 r2 (kp2.trans (Keep.of z)) (pen2.same z) (by omega)
    clear kp1 sh1 k1 k2 kp2 s0 en bi k pen1 la1 la2 sL nL hL hv pen pen2 hu0
    refine ⟨_, _, rfl, ?_⟩
    -- the entries with these
    obtain ⟨es, e1, e2, e3⟩ := en2.ex
    have le : es.length = ns.length := by rw [← e2, List.length_map]
    with_reducible refine setsU ?_
    refine ⟨_, rfl, t, bD es, rfl, .inl e1, fun M hM => ?_⟩
    have sM := same_new (o := .dK (bD es)) hM
    with_reducible refine seqU ?_
    refine ⟨_, rfl, _, rfl, _, rfl, M, _, rfl, .inl ⟨bD es, Sum.inr n, upd_same, rfl, by rw [bD_length, sizeLine_eq]; omega, rfl⟩, ?_⟩
    obtain ⟨ms, en3, pms⟩ := ent_put (H := upd H2 M (.dK (bD es))) (t := M) upd_same e2 (fun z hz => sM _ _ (e3 z hz)) en2.nd en2.names en2.wts hn wu (sM _ _ eu) rfl
    rw [upd_upd] at en3 ⊢
    have s3 := same_new (o := .dK (putK (bD es) (Sum.inr n) (V.ref u))) hM
    have sh3 := sh2.kp (.of s3)
    have bi3 := bi2.same s3
    have eu3 := s3 _ _ eu
    have enE := en2.same s3
    have k3 : ∀ H', Same (upd H2 M (.dK (putK (bD es) (Sum.inr n) (V.ref u)))) H' → Q (.bl true) H' := fun H' z => kk H' (s3.trans z)
    generalize upd H2 M (.dK (putK (bD es) (Sum.inr n) (V.ref u))) = H3 at en3 s3 sh3 bi3 eu3 enE k3 ⊢
    clear s3 sM hM e1 e3 kk sh2 en2 bi2 eu
    with_reducible refine nxsU ?_
    show tSeq _ _ _ [some (.ref p), some (.ref x), some (.ref sa), some (.ref t), some (.ref M), none, some (.str n), some (.ref u), none, none] H3
    with_reducible refine seqU ?_
    with_reducible refine ifU ?_
    with_reducible refine testU ?_
    with_reducible refine opU ?_
    obtain ⟨dx, gs, bc3, eg, q3⟩ := bi3.ex
    refine ⟨_, rfl, x, dx, _, rfl, bc3.obj, rfl, _, rfl, _, rfl, fun qa dq nq ndq nd => ?_⟩
    have sQ := made_mid (o := .ins (He.ga K "Question") dq []) nq ndq
    refine ⟨qa, dq, sa, u, ks, d, ws, rfl, upd_same, (upd_ne nd).trans upd_same, sh3.kp (.of sQ), sQ _ _ eu3, wu.mem, fun H4 t4 pt pdx ptt bs k4 ht4 qc => ⟨rfl, ?_⟩⟩
    have s4 := made_same nq ndq k4
    have good := ent_good hn
    refine ⟨_, rfl, rfl, sp_with (bi3.same s4) (sh3.kp (.of s4)) qc.hx (wok_bare sh3.ok wu) good.1 good.2 (by rw [pm.length_eq]; omega) (fun H5 y t5 ms5 s5 ht5 p5 b5 => ?_)⟩
    have s35 := s4.trans s5
    have sh5 := sh3.kp (.of s35)
    refine ⟨_, rfl, _, rfl, sa, M, ks, d, ms, _, rfl, sh5, en3.same s35, fun H6 y2 t6 ls6 s6 ht6 p6 b6 => ?_⟩
    have b5' := (b5.same s6).fn (wg := fun m => bare ks d (if m = n then ws else wf m)) fun m _ => by
      by_cases c : m = n
      · rw [if_pos c, if_pos c]
      · rw [if_neg c, if_neg c]
    have s36 := s35.trans s6
    refine ne_books T b5' b6 (b5.far (fun _ _ z => z) ht6) (sh3.kp (.of s36)) ?_
    rw [bkSame_is b5' b6 ((p5.trans (put_perm pm enE.nd)).trans ((p6.trans pms).symm))]
    refine ⟨_, rfl, ite2 (fun c => absurd c (by decide)) fun _ => ?_⟩
    have sh6 := sh3.kp (.of s36)
    have bi6 := bi3.same s36
    have en6 := enE.same s36
    have k6 : ∀ H', Same H6 H' → Q (.bl true) H' := fun H' z => k3 H' (s36.trans z)
    clear b5' b6 b5 p5 p6 s35 s36 s4 s5 s6 qc sQ sh5 bc3 q3 eg k3 enE eu3 bi3 sh3 en3 pms
    with_reducible refine nxU ?_
    with_reducible refine seqU ?_
    -- without each of its names
    obtain ⟨es6, f1, f2, f3⟩ := en6.ex
    refine ⟨_, rfl, t, bD es6, rfl, .inl f1, fun L hL => ?_⟩
    have sL := same_new (o := .lst ((bD es6).map fun kv => kV kv.1)) hL
    have eL : ((bD es6).map fun kv => kV kv.1) = ns.map V.str := by
      unfold bD
      rw [List.map_map, ← f2, List.map_map]
      rfl
    rw [eL] at sL ⊢
    refine ⟨L, _, rfl, .inr (SqL.of upd_same), fun J wk => ?_⟩
    have sh7 := sh6.kp (.of sL)
    have bi7 := bi6.same sL
    have en7 := en6.same sL
    have k7 : ∀ H', Same (upd H6 L (.lst (ns.map V.str))) H' → Q (.bl true) H' := fun H' z => k6 H' (sL.trans z)
    have hL7 : (upd H6 L (.lst (ns.map V.str))) L = some (.lst (ns.map V.str)) := upd_same
    generalize upd H6 L (.lst (ns.map V.str)) = H7 at sL sh7 bi7 en7 k7 hL7 wk ⊢
    clear sL eL f1 f3 f2 en6 bi6 sh6 k6 hL
    refine for_it wk (fun i σ' H' => ∃ c5 c8 c9, σ' = [some (.ref p), some (.ref x), some (.ref sa), some (.ref t), some (.ref M), c5, some (.str n), some (.ref u), c8, c9] ∧ Same H7 H') ⟨none, none, none, rfl, fun _ _ z => z⟩ (fun i σ' H' _ q => ?_) (fun i v σ' H8 H9 hi q yl => ?_) (fun σ' H8 q => ?_)
    · obtain ⟨_, _, _, _, sm⟩ := q
      exact .of_same sm
    · obtain ⟨c5, c8, c9, rfl, s8⟩ := q
      obtain ⟨rfl, hz⟩ := yl
      rw [List.getElem?_map] at hz
      obtain ⟨g, hg, rfl⟩ := Option.map_eq_some_iff.mp hz
      have mg : g ∈ ns := List.mem_of_getElem? hg
      have mgl : g ∈ ls := pm.mem_iff.mpr mg
      have sh9 := sh7.kp (.of s8)
      have en9 := en7.same s8
      have bi9 := bi7.same s8
      obtain ⟨es9, f1, f2, f3⟩ := en9.ex
      have le9 : es9.length = ns.length := by rw [← f2, List.length_map]
      have step : ∀ H' (y8 y9 : Option V), Same H9 H' → ∃ c5 c8 c9, ([some (.ref p), some (.ref x), some (.ref sa), some (.ref t), some (.ref M), some (.str g), some (.str n), some (.ref u), y8, y9] : L2.St) = [some (.ref p), some (.ref x), some (.ref sa), some (.ref t), some (.ref M), c5, some (.str n), some (.ref u), c8, c9] ∧ Same H7 H' := fun H' y8 y9 z => ⟨_, _, _, rfl, s8.trans z⟩
      refine gnU ?_
      with_reducible refine setsU ?_
      refine cb1U ?_
      refine lc_pairsK (fun key => !decide (key = Sum.inr g)) (fun _ v => v) f1 (by rw [bD_length]; omega) (by show 9 < 10; decide) (fun od R r => ⟨_, rfl, r⟩) (fun od key v m H2 Q' sm q => ?_) (fun od key v m pk H2 Q' sm q => ?_) (fun D qs H2 sm nD eD pr => ?_)
      · obtain ⟨z, hz, ez⟩ := List.mem_map.mp m
        cases ez
        refine ⟨_, rfl, _, rfl, .inl ⟨rfl, _, rfl, ?_⟩⟩
        have e1 : (!decide (V.str z.1 = V.str g)) = !decide ((Sum.inr z.1 : L2.Key) = Sum.inr g) := by
          by_cases h : z.1 = g
          · rw [h, decide_eq_true rfl, decide_eq_true rfl]
          · rw [decide_eq_false (fun q => h (by injection q)), decide_eq_false (fun q => h (Sum.inr.inj q))]
        show Q' (!decide (V.str z.1 = V.str g)) H2
        rw [e1]
        exact q
      · obtain ⟨z, hz, ez⟩ := List.mem_map.mp m
        cases ez
        have vb : valV (bD es9) (Sum.inr z.1) = some (.ref z.2) := by
          rw [valV_bD, bat_mem (by rw [f2]; exact en9.nd) hz]
          rfl
        exact ⟨_, rfl, _, rfl, t, .ref z.2, rfl, .inl ⟨_, Sum.inr z.1, .inr ⟨od, sm _ _ upd_same⟩, rfl, vb.symm⟩, q⟩
      have fl : ((bD es9).filter fun kv => !decide (kv.1 = Sum.inr g)) = bD (es9.filter fun z => !decide (z.1 = g)) := by
        unfold bD
        rw [List.filter_map]
        refine congrArg _ (List.filter_congr fun z _ => ?_)
        show (!decide ((Sum.inr z.1 : L2.Key) = Sum.inr g)) = !decide (z.1 = g)
        by_cases h : z.1 = g
        · rw [h, decide_eq_true rfl, decide_eq_true rfl]
        · rw [decide_eq_false h, decide_eq_false (fun q => h (Sum.inr.inj q))]
      rw [fl, List.map_id'] at pr
      have ef : (es9.filter fun z => !decide (z.1 = g)).map (·.1) = ns.filter fun m => !decide (m = g) := by
        rw [← f2, List.filter_map]
        rfl
      have ndf : (ns.filter fun m => !decide (m = g)).Nodup := en9.nd.sublist List.filter_sublist
      have nk : ((bD (es9.filter fun z => !decide (z.1 = g))).map (·.1)).Nodup := by rw [keys_bD, ef]; exact nd_inr ndf
      refine ⟨D, qs, _, rfl, SqL.of eD, Paired.mapP pr fun _ _ h => SqT.of h, fun D2 hD2 => ?_⟩
      rw [mergeK_new (bD (es9.filter fun z => !decide (z.1 = g))) [] nk, List.nil_append]
      have sA := sm.trans (same_new (o := .dK (bD (es9.filter fun z => !decide (z.1 = g)))) hD2)
      have enL : EntIs (upd H2 D2 (.dK (bD (es9.filter fun z => !decide (z.1 = g))))) D2 ks d (ns.filter fun m => !decide (m = g)) wf :=
        ⟨⟨_, upd_same, ef, fun z hz => sA _ _ (f3 z (List.mem_filter.mp hz).1)⟩, ndf, fun m hm => en9.names m (List.mem_filter.mp hm).1, fun m hm => en9.wts m (List.mem_filter.mp hm).1⟩
      have shA := sh9.kp (.of sA)
      have biA := bi9.same sA
      have stA : ∀ H' (y8 y9 : Option V), Same (upd H2 D2 (.dK (bD (es9.filter fun z => !decide (z.1 = g))))) H' → ∃ c5 c8 c9, ([some (.ref p), some (.ref x), some (.ref sa), some (.ref t), some (.ref M), some (.str g), some (.str n), some (.ref u), y8, y9] : L2.St) = [some (.ref p), some (.ref x), some (.ref sa), some (.ref t), some (.ref M), c5, some (.str n), some (.ref u), c8, c9] ∧ Same H7 H' := fun H' y8 y9 z => step H' y8 y9 (sA.trans z)
      generalize upd H2 D2 (.dK (bD (es9.filter fun z => !decide (z.1 = g)))) = HA at enL shA biA stA ⊢
      clear step sA nk fl pr eD nD sm f1 f2 f3 le9 en9 bi9 sh9 s8 sh7 en7 bi7 hL7 ef ndf
      show tSeq _ _ _ [some (.ref p), some (.ref x), some (.ref sa), some (.ref t), some (.ref M), some (.str g), some (.str n), some (.ref u), some (.ref D2), c9] HA
      obtain ⟨dx, gs, bcA, eg, qA⟩ := biA.ex
      have obA : ∀ H', Same HA H' → H' x = some (.ins (He.ga K "Book") dx [("shape", .ref sa), ("_questions", .ref t')]) := fun H' z => z _ _ bcA.obj
      -- the book without it, and that of the entries without it
      with_reducible refine seqU ?_
      with_reducible refine ifU ?_
      with_reducible refine torU ?_
      with_reducible refine testU ?_
      with_reducible refine opU ?_
      refine ⟨_, rfl, x, dx, _, rfl, bcA.obj, rfl, _, rfl, ?_⟩
      dsimp only [tNil, List.cons_append, List.nil_append]
      refine sp_without biA shA mgl fun HB y tB ms sB hB pB bB => ?_
      refine ⟨_, rfl, _, rfl, sa, D2, ks, d, _, wf, rfl, shA.kp (.of sB), enL.same sB, fun HC y2 tC ms2 sC hC pC bC => ?_⟩
      refine ne_books T (bB.same sC) bC (bB.far (fun _ _ z => z) hC) (shA.kp (.of (sB.trans sC))) ?_
      rw [bkSame_is (bB.same sC) bC (pB.trans ((pm.filter _).trans pC.symm))]
      refine ⟨_, rfl, ite2 (fun c => absurd c (by decide)) fun _ => ?_⟩
      have sAC := sB.trans sC
      -- it holds no more
      with_reducible refine tnotU ?_
      with_reducible refine testU ?_
      with_reducible refine opU ?_
      refine ⟨_, rfl, x, dx, _, rfl, obA _ sAC, rfl, _, rfl, rfl, sp_without (biA.same sAC) (shA.kp (.of sAC)) mgl fun HD y3 tD ms3 sD hD pD bD3 => ?_⟩
      have sAD := sAC.trans sD
      refine ⟨_, rfl, le_books T bD3 (biA.same sAD) (Ne.symm ((biA.same sAC).far (fun _ _ z => z) hD)) (shA.kp (.of sAD)) fun HE sE => ?_⟩
      rw [bkLe_self (ks := ks) (d := d) (fun m hm => (List.mem_filter.mp (pD.mem_iff.mp hm)).1) bD3.wok]
      refine ⟨_, rfl, ite2 (fun c => absurd c (by decide)) fun _ => ?_⟩
      have sAE := sAD.trans sE
      -- nor as much
      with_reducible refine nxU ?_
      with_reducible refine ifU ?_
      with_reducible refine testU ?_
      with_reducible refine opU ?_
      refine ⟨_, rfl, _, rfl, x, dx, _, rfl, obA _ sAE, rfl, _, rfl, ?_⟩
      dsimp only [tNil, List.cons_append, List.nil_append]
      refine sp_without (biA.same sAE) (shA.kp (.of sAE)) mgl fun HF y4 tF ms4 sF hF pF bF => ?_
      have sAF := sAE.trans sF
      refine le_books T (biA.same sAF) bF ((biA.same sAE).far (fun _ _ z => z) hF) (shA.kp (.of sAF)) fun HG sG => ?_
      rw [bkLe_no (n := g) mgl fun m => by
        have := (List.mem_filter.mp (pF.mem_iff.mp m)).2
        simp at this]
      refine ⟨_, rfl, ite2 (fun c => absurd c (by decide)) fun _ => ?_⟩
      with_reducible refine nxU ?_
      exact stA _ _ _ (sAF.trans sG)
    · obtain ⟨c5, c8, c9, rfl, s8⟩ := q
      with_reducible refine retU ?_
      exact ⟨_, rfl, _, rfl, _, rfl, x, t', sa, t, ks, d, ls, ns, wf, rfl, sh7.kp (.of s8), en7.same s8, bi7.same s8, pm, nw, fun H' z => k7 H' (s8.trans z)⟩
end
end L2.K20
set_option Elab.async false
set_option linter.all false
set_option maxRecDepth 100000
set_option maxHeartbeats 4000000
/-! Keys chosen by a test that may make objects. -/
namespace L2.RV
open PySem PySem.Spec PyProof.Rows
/-- [f(k) for k in d if p(k)], p may make objects -/
theorem lc_keysC {ti : TI} {te : TE} {tt : TT} {j : Nat} {σ : L2.St} {H : Hp} {Q : VK} {t : Addr} {kvs : List (L2.Key × V)} (p : L2.Key → Bool) (f : L2.Key → V) (e : H t = some (.dK kvs)) (small : kvs.length ≤ 1000) (hj : j < σ.length)
    (hi : ∀ od (R : It → Hp → Prop), R (Itk t od kvs) (upd H t (.frz od (.dK kvs))) → ti σ (upd H t (.frz od (.dK kvs))) R)
    (ht : ∀ (od : Obj) (key : L2.Key) (v : V), (key, v) ∈ kvs → ∀ (H1 : Hp) (Q' : Bool → Hp → Prop), Same (upd H t (.frz od (.dK kvs))) H1 → (∀ H2, Same H1 H2 → Q' (p key) H2) → tt ((wipe σ [j]).set j (some (kV key))) H1 Q')
    (hv : ∀ (od : Obj) (key : L2.Key) (v : V), (key, v) ∈ kvs → p key = true → ∀ (H1 : Hp) (Q' : VK), Same (upd H t (.frz od (.dK kvs))) H1 → Q' (f key) H1 → te ((wipe σ [j]).set j (some (kV key))) H1 Q')
    (k : ∀ D H', Same H H' → H D = none → H' D = some (.lst (((kvs.map (·.1)).filter p).map f)) → Q (.ref D) H') {vs : List Nat} (evs : vs = [j] := by rfl) : tLockE (tLc ti (gName j) tt te vs) σ H Q := by
  subst evs
  refine ⟨t, .dK kvs, e, True.intro, fun od => ?_⟩
  refine hi od _ (fun D hD => ?_)
  refine lc_it walk_keys (fun i H' => H' D = some (.lst ((((kvs.take i).map (·.1)).filter p).map f)) ∧ Same (upd H t (.frz od (.dK kvs))) H') ⟨upd_same, same_new hD⟩ (fun i H' _ e => e.2 _ _ upd_same) (fun i x H2 H3 lt e y => ?_) (fun H' e => ?_)
  · obtain ⟨hDl, sm⟩ := e
    obtain ⟨rfl, key, v, hkv, rfl⟩ := y
    have mk : (key, v) ∈ kvs := List.mem_of_getElem? hkv
    have et : (kvs.take (i + 1)).map (·.1) = (kvs.take i).map (·.1) ++ [key] := by rw [take_snoc hkv, List.map_append]; rfl
    refine ⟨wipe_set1 σ j _, ht od key v mk _ _ sm fun H4 s4 => ?_⟩
    cases c : p key with
    | false =>
      rw [if_neg (by decide), et, List.filter_append, List.filter_cons_of_neg (by rw [c]; decide), List.filter_nil, List.append_nil]
      exact ⟨s4 _ _ hDl, sm.trans s4⟩
    | true =>
      rw [if_pos rfl]
      refine hv od key v mk c _ _ (sm.trans s4) ⟨_, s4 _ _ hDl, ?_, ?_, fun b o eb => ?_⟩
      · have z := List.length_filter_le p ((kvs.take i).map (·.1))
        rw [List.length_map, List.length_take] at z
        rw [List.length_map, sizeLine_eq]
        omega
      · rw [upd_same, et, List.filter_append, List.filter_cons_of_pos c, List.filter_nil, List.map_append]
        rfl
      · exact (upd_ne (ne_of_none eb hD)).trans (s4 _ _ (sm _ _ eb))
  · obtain ⟨hDl, sm⟩ := e
    rw [List.take_length] at hDl
    obtain ⟨n, fr⟩ := unlock_free hD
    exact ⟨sm _ _ upd_same, k D _ (unlock_same e sm) fr ((upd_ne n).trans hDl)⟩
end L2.RV
set_option Elab.async false
set_option linter.all false
set_option maxRecDepth 100000
set_option maxHeartbeats 4000000
/-! number * a, a an instance of an own class. -/
namespace L2.RV
open PySem PySem.Spec PyProof.Rows PySem.W
theorem mul_declines (a : Int) (t : Tok) (l : Addr) (o : Obj) (ho : o.data = .plain) :
    Meets (Builtin.«int.__mul__» ⟨[.int a t, .ref l], []⟩) (fun _ R s => s.heap.get? l = some o ∧ R (.ok (.ret Value.notImplemented)) s) :=
  .of_wp fun prog w A R s h => by
    obtain ⟨hp, g, d, tk, os⟩ := s
    obtain ⟨cls, dd, data, sl⟩ := o
    cases ho
    obtain ⟨hl, h⟩ := h
    wp_walk using wpAny_loadPart' hl
    exact ⟨_, rfl, h⟩
section
variable {prog : Program} {w : World} {A : Around} {E : Value → Shared → Prop} {s : Shared} {K : Frag} {x C L f g : Addr} {h₀ : Heap} {m : Str → Option Value} {ox : Obj} {od : Option Obj}
theorem bop1_r {i : Int} {t : Tok} {Q : Value → Shared → Prop} (Fh : Fr h₀ L s.heap m) (X₀ : K.In h₀) (I : InstAt s.heap x ox C od) (hd : ox.data = .plain) (hc : selfFirst K C = true)
    (hs : findIn K (.ref C) (PySem.dunder "mul") = some (some (.ref g))) (hr : findIn K (.ref C) (dunderR "mul") = some (some (.ref f))) (hf : isFn K (.ref f) = true) (hsub : subIn K (.ref C) (.type "int") = some false)
    (h : wpAny (model prog w) A (call (.ref f) [.ref x, .int i t]) (PySem.W.CmpBack Q) E s) : wpAny (model prog w) A (binaryOp .Mult (.int i t) (.ref x)) Q E s := by
  have X := X₀.keeps Fh.keep
  obtain ⟨cd, rest, hcd, hm⟩ := ksp_first hc
  have one := ksp_try X I hr hf h
  have L3 : Looks (model prog w) s.heap (fillsNumberSlot (.ref C) "mul") true := fills_K X hcd hm hs
  have L5 : Looks (model prog w) s.heap (isSubtype (.ref C) (.type "int")) false := looks_subIn X hsub
  have hne : (Value.type "int" == Value.ref C) = false := Bool.eq_false_iff.mpr fun q => by cases beq_iff_eq.mp q
  have hT : s.TypeIs (.int i t) "int" := typeIs_int s i t
  show wpAny _ _ (holding _ (_ >>= _)) _ _ _
  refine wpAny_holding (wpAny_bind ?_)
  unfold binaryOp1
  refine wpAny_bind (wpAny_typeOf hT (wpAny_bind (I.type.here (wpAny_bind (wpAny_of_eq PySem.F.fills_int_mul ?_)))))
  simp only [hne, Bool.false_eq_true, if_false]
  refine wpAny_bind (L3.here ?_)
  simp only [Bool.and_self, if_true]
  refine wpAny_bind (L5.here ?_)
  have hpy : numberSlotInPython (.type "int") "mul" = pure false := rfl
  simp only [Bool.false_eq_true, if_false, pure_bind, Bool.not_false, Bool.and_self, if_true, hpy]
  refine wpAny_bind (wpAny_tryMethod_declines hT PySem.F.slot_int_mul (call_meets PySem.F.slot_int_mul hT PySem.F.entry_int_mul (PySem.F.args_int_mul_2 _ _) (mul_declines i t x ox hd) ⟨I.at_, rfl, ?_⟩))
  refine wpAny_bind (wpAny_mono one (fun r s' hr' => ?_) fun _ _ e => e)
  obtain ⟨v, rfl, hq⟩ := hr'
  exact wpAny_bind (wpAny_rule (wpAny_pure (wpAny_pure hq)))
end
end L2.RV
set_option Elab.async false
set_option linter.all false
set_option maxRecDepth 100000
set_option maxHeartbeats 4000000
/-! number * a, as a rule of the texts; floor division by any number that fits. -/
namespace L2.RV
open PySem PySem.Spec PyProof.Rows
def rRMulI (C : Addr) (sp : Sp) (E : XK) : R2 := fun x y H Q => ∃ i a dx fs, x = .int i ∧ y = .ref a ∧ H a = some (.ins C dx fs) ∧ sp [y, x] H Q E
section
variable {X : Cx} {CX : CXT} {C : Addr} {k : Nat} {ps : List Str} {sp : Sp} {E : XK}
theorem op_rmulI {g : Addr} (D : MethS CX X.prog X.w X.K X.mg X.base C (dunderR "mul") k ps sp) (hc : PySem.W.selfFirst X.K C = true) (hm : PySem.W.findIn X.K (.ref C) (PySem.dunder "mul") = some (some (.ref g))) (hsub : PySem.W.mroIn X.K C (.type "int") = some false) (hr : Room k X.A) (hx : Passes CX X E) : OpR X (binaryOp .Mult) (rRMulI C sp E) := by
  obtain ⟨f, fd, M, fi, bd, F⟩ := D.ex
  intro pins s σ H x y v u Q I rx ry h
  obtain ⟨i, a, dx, fs, rfl, rfl, e, q⟩ := h
  obtain ⟨t, rfl⟩ := rx
  cases ry
  obtain ⟨mA, O, _⟩ := ins_get I.hok e
  obtain ⟨od, J, _⟩ := O.look
  obtain ⟨m, hF⟩ := I.fr
  refine bop1_r hF I.ok.mod.kin J rfl hc hm M.at_ M.fn hsub (thn (run_at (vs := [.ref a, .int i]) F bd hr rfl hx I (.cons rfl (.cons ⟨_, rfl⟩ .nil)) q) ?_)
  rintro r s1 ⟨z, H1, I1, rz, q1⟩
  exact back_of I1 rz q1
/-- a // b where b is not nought and of at most 9,000 bits -/
def CDivX (_ j : Int) : Prop := j ≠ 0 ∧ Nat.log2 j.natAbs < 9000
end
end L2.RV
set_option Elab.async false
set_option linter.all false
set_option maxRecDepth 100000
set_option maxHeartbeats 4000000
namespace L2.RV
open PySem PySem.Spec PyProof.Rows
theorem pip_of {X : Cx} {op : Operator} {r : R2} (ho : OpR X (inplaceOp op) r) : PIp X op r := fun pins s σ H x y v u Q I rx ry q => augR ho I rx ry q
end L2.RV
set_option Elab.async false
set_option linter.all false
set_option maxRecDepth 100000
set_option maxHeartbeats 4000000
/-! What books put together hold; entries of which some are taken. -/
namespace L2.K20
open PySem PySem.Spec PyProof.Rows L2.RV
theorem nodup_lenG {α : Type} [DecidableEq α] : ∀ {xs ys : List α}, xs.Nodup → (∀ x ∈ xs, x ∈ ys) → xs.length ≤ ys.length
  | [], _, _, _ => Nat.zero_le _
  | x :: xs, ys, nd, h => by
    have m := h x List.mem_cons_self
    have z := nodup_lenG (xs := xs) (ys := ys.erase x) (List.nodup_cons.mp nd).2 fun y hy => (List.mem_erase_of_ne fun q => (List.nodup_cons.mp nd).1 (by rw [← q]; exact hy)).mpr (h y (List.mem_cons_of_mem _ hy))
    have l := List.length_erase_of_mem m
    have pos : 0 < ys.length := List.length_pos_of_mem m
    rw [List.length_cons]
    omega
theorem valV_mem {ws : List (Pl × Int)} {p : Pl} {v : V} (h : valV (plD ws) (plK p) = some v) : ∃ i, v = V.int i ∧ (p, i) ∈ ws := by
  induction ws with
  | nil => cases h
  | cons z ws ih =>
    by_cases c : z.1 = p
    · have e : valV (plD (z :: ws)) (plK p) = some (V.int z.2) := valV_pos (p := (plK z.1, V.int z.2)) (by show plK z.1 = plK p; rw [c])
      rw [e] at h
      cases h
      exact ⟨z.2, rfl, by rw [← c]; exact List.mem_cons_self⟩
    · have e : valV (plD (z :: ws)) (plK p) = valV (plD ws) (plK p) := valV_neg (p := (plK z.1, V.int z.2)) (fun q => c (plK_inj.mp q))
      rw [e] at h
      obtain ⟨i, e1, m⟩ := ih h
      exact ⟨i, e1, List.mem_cons_of_mem _ m⟩
theorem dtSame_flip {A B : List (Pl × Int)} (na : (A.map (·.1)).Nodup) (nb : (B.map (·.1)).Nodup) (h : dtSame (plD A) (plD B) = true) : dtSame (plD B) (plD A) = true := by
  unfold dtSame at h
  rw [Bool.and_eq_true] at h
  have len : A.length = B.length := by
    have z := h.1
    unfold plD at z
    rw [List.length_map, List.length_map] at z
    exact beq_iff_eq.mp z
  have sub : ∀ z ∈ A, z ∈ B := fun z hz => by
    have q := List.all_eq_true.mp h.2 (plK z.1, V.int z.2) (List.mem_map.mpr ⟨z, hz, rfl⟩)
    obtain ⟨i, e, m⟩ := valV_mem (of_decide_eq_true q)
    cases e
    exact m
  have nA : A.Nodup := List.Pairwise.of_map (·.1) (fun a b h q => h (by rw [q])) na
  have back : ∀ z ∈ B, z ∈ A := fun z hz => by
    by_cases c : z ∈ A
    · exact c
    · have := nodup_lenG (xs := z :: A) (ys := B) (List.nodup_cons.mpr ⟨c, nA⟩) fun y hy => by
        rcases List.mem_cons.mp hy with rfl | hy
        · exact hz
        · exact sub y hy
      rw [List.length_cons] at this
      omega
  unfold dtSame
  rw [Bool.and_eq_true]
  refine ⟨?_, List.all_eq_true.mpr fun kv hk => ?_⟩
  · unfold plD
    rw [List.length_map, List.length_map, len]
    exact beq_self_eq_true _
  · obtain ⟨z, hz, rfl⟩ := List.mem_map.mp hk
    exact decide_eq_true (valV_in na z (back z hz))
theorem dtSame_comm {A B : List (Pl × Int)} (na : (A.map (·.1)).Nodup) (nb : (B.map (·.1)).Nodup) : dtSame (plD A) (plD B) = dtSame (plD B) (plD A) := by
  cases c : dtSame (plD A) (plD B) with
  | true => exact (dtSame_flip na nb c).symm
  | false =>
    cases c2 : dtSame (plD B) (plD A) with
    | false => rfl
    | true => rw [dtSame_flip nb na c2] at c; cases c
end L2.K20
set_option Elab.async false
set_option linter.all false
set_option maxRecDepth 100000
set_option maxHeartbeats 4000000
/-! Books put together, looked at. -/
namespace L2.K20
open PySem PySem.Spec PyProof.Rows L2.RV
/-- _law_joined_right(shape, entries, others) -/
def spJoined (K : PySem.W.Frag) : Sp := fun vs H Q _ => ∃ s t u ks d ns ms wf wg, vs = [.ref s, .ref t, .ref u] ∧ ShapeAt K H s ks d ∧ EntIs H t ks d ns wf ∧ EntIs H u ks d ms wg ∧ t ≠ u ∧ ∀ H', Same H H' → Q (.bl true) H'
theorem EntIs.get {H : Hp} {t : Addr} {ks : List Str} {d : Nat} {ns : List Str} {wf : WF} (e : EntIs H t ks d ns wf) {es : BL} (e1 : H t = some (.dK (bD es))) (e2 : es.map (·.1) = ns) : ∀ {z}, z ∈ es → valV (bD es) (Sum.inr z.1) = some (.ref z.2) := fun {z} hz => by
  rw [valV_bD, bat_mem (by rw [e2]; exact e.nd) hz]
  rfl
theorem all_mem {α : Type} {p q : α → Bool} : ∀ {l : List α}, (∀ x ∈ l, p x = q x) → l.all p = l.all q
  | [], _ => rfl
  | x :: l, h => by
    rw [List.all_cons, List.all_cons, h x List.mem_cons_self, all_mem fun y hy => h y (List.mem_cons_of_mem _ hy)]
theorem same_names {xs ys : List Str} (nx : xs.Nodup) (ny : ys.Nodup) (h : ∀ n, n ∈ xs ↔ n ∈ ys) : xs.Perm ys := (List.perm_ext_iff_of_nodup nx ny).mpr h
theorem strs_eq_nil {K : PySem.W.Frag} {H : Hp} {a b : Addr} {xs : List Str} (ok : (xs.all fun x => PyData.strOk x) = true) (h1 : H a = some (.lst (xs.map V.str))) (h2 : H b = some (.lst [])) {Q : VK} (q : Q (.bl xs.isEmpty) H) : rSame K (.ref a) (.ref b) H Q :=
  .inr ⟨_, .list [], .lst (SqL.of h1) (dpA_str xs), .lst (SqL.of h2) .nil, shaped_list ok, by decide, by
    have e : PyData.eqv (.list (xs.map PyData.str)) (.list []) = xs.isEmpty := by
      cases xs with
      | nil => rfl
      | cons x r => simp only [List.map_cons]; unfold PyData.eqv PyData.eqvAll; rfl
    rw [e]
    exact q⟩
section
variable {P : Program} {w : World} {K : PySem.W.Frag} {mg : Str → Option Value} {base : Heap} {fd : FuncData}
theorem ok_law_joined_right (T : Top w K mg) (D_law_book : Def P w K mg base "_law_book" 11 ["_law_shape_here", "_law_entries_here"] (spLBook K)) (D_law_bare : Def P w K mg base "_law_bare" 1 ["_law_weights_here"] (spBare K)) (S_Book_eq : MethS CX0 P w K mg base (He.ga K "Book") "__eq__" 6 ["self", "other"] (spBookEq K)) (S_Book_le : MethS (L2.CX P w) P w K mg base (He.ga K "Book") "__le__" 6 ["self", "other"] (spBookLe K)) (S_Book_or : MethS (L2.CX P w) P w K mg base (He.ga K "Book") "__or__" 8 ["self", "other"] (spBookOr K)) (F : Fn K "_law_joined_right" s_law_joined_right fd) : FnOk P w K mg base CX0 13 (He.ga K "_law_joined_right") fd ["_law_shape_here", "_law_entries_here", "_law_others"] (spJoined K) := by
  refine F.ok sc_law_joined_right (fun vs H Q E h => ?_) (fun cdv A outer s H vs Q E hr h => ?_)
  · obtain ⟨s, t, u, ks, d, ns, ms, wf, wg, rfl, _⟩ := h
    rfl
  · obtain ⟨sa, t, u, ks, d, ns, ms, wf, wg, rfl, s0, en, em, ntu, k⟩ := h
    have hu := hr.units
    refine ⟨_, PSs.nox (pss_cons (ps_set (i := 3) sc_law_joined_right.nd rfl (by first | exact Or.inl rfl | exact Or.inr rfl) (pe_callTy (call_dictPK (K := K) rfl rfl) rfl T.n_dict (by decide +kernel) (pa_cons (pe_lock (pe_lc (own := [("_law_name", 10)]) (g := gName 10) (by rfl) sc_law_joined_right.nd (pi_keys (pv 2)) (blkOk_by (own := [("_law_name", 10)]) (N := ["_law_shape_here", "_law_entries_here", "_law_others", "_law_fit", "_law_both", "_law_held", "_law_alike", "_law_due", "_law_one", "_law_other", "_law_name"]) (sc := defScope s_law_joined_right) (by decide +kernel)) (fun _ _ _ _ _ => by exact (pg_name (i := 10) sc_law_joined_right.nd rfl (by first | exact Or.inl rfl | exact Or.inr rfl))) (fun _ _ _ _ _ => by exact (pts_one (pt_cmp (pc_dnotin (Nat.lt_of_le_of_lt (Nat.add_le_add_left (by decide) _) hu) (pv 10) (pv 1)) rfl))) (fun _ _ _ _ _ => by exact (pe_tup (pa_cons (pv 10) (pa_cons (pe_dget (Nat.lt_of_le_of_lt (Nat.add_le_add_left (by decide) _) hu) (pv 2) (pv 10) (fun _ _ => rfl)) pa_nil)))))) pa_nil)))
      (pss_cons (ps_par (i := 8) (j := 9) (by rfl) sc_law_joined_right.nd rfl rfl (by decide) rfl rfl (pa_cons (pe_callD D_law_book (hr.mono (by decide)) rfl (pa_cons (pv 0) (pa_cons (pv 1) pa_nil))) (pa_cons (pe_callD D_law_book (hr.mono (by decide)) rfl (pa_cons (pv 0) (pa_cons (pv 3) pa_nil))) pa_nil)) (by rfl))
      (pss_cons (ps_set (i := 4) sc_law_joined_right.nd rfl (by first | exact Or.inl rfl | exact Or.inr rfl) (pe_callTy (call_dictPK (K := K) rfl rfl) rfl T.n_dict (by decide +kernel) (pa_cons (pe_op op_cat (pe_lock (pe_lc (own := [("_law_name", 10)]) (g := gName 10) (tt := tYes) (by rfl) sc_law_joined_right.nd (pi_keys (pv 1)) (blkOk_by (own := [("_law_name", 10)]) (N := ["_law_shape_here", "_law_entries_here", "_law_others", "_law_fit", "_law_both", "_law_held", "_law_alike", "_law_due", "_law_one", "_law_other", "_law_name"]) (sc := defScope s_law_joined_right) (by decide +kernel)) (fun _ _ _ _ _ => by exact (pg_name (i := 10) sc_law_joined_right.nd rfl (by first | exact Or.inl rfl | exact Or.inr rfl))) (fun _ _ _ _ _ => by exact pts_nil) (fun _ _ _ _ _ => by exact (pe_tup (pa_cons (pv 10) (pa_cons (pe_dget (Nat.lt_of_le_of_lt (Nat.add_le_add_left (by decide) _) hu) (pv 1) (pv 10) (fun _ _ => rfl)) pa_nil)))))) (pe_lock (pe_lc (own := [("_law_name", 10)]) (g := gName 10) (tt := tYes) (by rfl) sc_law_joined_right.nd (pi_keys (pv 3)) (blkOk_by (own := [("_law_name", 10)]) (N := ["_law_shape_here", "_law_entries_here", "_law_others", "_law_fit", "_law_both", "_law_held", "_law_alike", "_law_due", "_law_one", "_law_other", "_law_name"]) (sc := defScope s_law_joined_right) (by decide +kernel)) (fun _ _ _ _ _ => by exact (pg_name (i := 10) sc_law_joined_right.nd rfl (by first | exact Or.inl rfl | exact Or.inr rfl))) (fun _ _ _ _ _ => by exact pts_nil) (fun _ _ _ _ _ => by exact (pe_tup (pa_cons (pv 10) (pa_cons (pe_dget (Nat.lt_of_le_of_lt (Nat.add_le_add_left (by decide) _) hu) (pv 3) (pv 10) (fun _ _ => rfl)) pa_nil))))))) pa_nil)))
      (pss_cons (ps_set (i := 5) sc_law_joined_right.nd rfl (by first | exact Or.inl rfl | exact Or.inr rfl) (pv 8))
      (pss_cons (ps_aug (i := 5) sc_law_joined_right.nd rfl (by first | exact Or.inl rfl | exact Or.inr rfl) (pv 9) (pip_of (iop_binO (op := .BitOr) S_Book_or T.o_Book.self T.p_Book_or.noin (hr.mono (by decide)) pass_E0)))
      (pss_cons (ps_if (PW.pt (pw_or (pt_cmpR (op_neO S_Book_eq T.o_Book.obj T.o_Book.ne (hr.mono (by decide)) pass_CX0) (pv 5) (pe_callD D_law_book (hr.mono (by decide)) rfl (pa_cons (pv 0) (pa_cons (pv 4) pa_nil))) (nomark _)) (pw_or (pt_cmpR (op_neO S_Book_eq T.o_Book.obj T.o_Book.ne (hr.mono (by decide)) pass_CX0) (pv 5) (pe_op (op_binO (op := .BitOr) S_Book_or T.o_Book.self (hr.mono (by decide)) pass_E0) (pv 9) (pv 8)) (nomark _)) (pw_or (pt_cmpR (op_neO S_Book_eq T.o_Book.obj T.o_Book.ne (hr.mono (by decide)) pass_CX0) (pe_op (op_binO (op := .BitOr) S_Book_or T.o_Book.self (hr.mono (by decide)) pass_E0) (pv 8) (pv 8)) (pv 8) (nomark _)) (pw_or1 (pt_cmpR (op_neO S_Book_eq T.o_Book.obj T.o_Book.ne (hr.mono (by decide)) pass_CX0) (pe_op (op_binO (op := .BitOr) S_Book_or T.o_Book.self (hr.mono (by decide)) pass_E0) (pv 8) (pv 5)) (pv 5) (nomark _))))))) (pss_one (ps_ret pe_bl)) pss_nil)
      (pss_cons (ps_if (PW.pt (pw_or (pt_not (pt_cmpR (op_leO S_Book_le (hr.mono (by decide)) pass_E0) (pv 8) (pv 5) (nomark _))) (pw_or (pt_not (pt_cmpR (op_leO S_Book_le (hr.mono (by decide)) pass_E0) (pv 9) (pv 5) (nomark _))) (pw_or1 (pt_cmpR (op_diffK (K := K) rfl hu) (pe_cmpR (op_leO S_Book_le (hr.mono (by decide)) pass_E0) (pv 5) (pv 8) (nomark _)) (pe_cmpR (op_eqB (eqW_int (n := 0)) (hr.mono (by decide))) (pv 3) pe_dnewK (nomark _)) (nomark _)))))) (pss_one (ps_ret pe_bl)) pss_nil)
      (pss_cons (ps_set (i := 6) sc_law_joined_right.nd rfl (by first | exact Or.inl rfl | exact Or.inr rfl) (pe_callD D_law_book (hr.mono (by decide)) rfl (pa_cons (pv 0) (pa_cons (pv 2) pa_nil))))
      (pss_cons (ps_set (i := 7) sc_law_joined_right.nd rfl (by first | exact Or.inl rfl | exact Or.inr rfl) (pe_cmpR (op_sameK (K := K) rfl hu) (pe_lock (pe_lc (own := [("_law_name", 10)]) (g := gName 10) (by rfl) sc_law_joined_right.nd (pi_keys (pv 1)) (blkOk_by (own := [("_law_name", 10)]) (N := ["_law_shape_here", "_law_entries_here", "_law_others", "_law_fit", "_law_both", "_law_held", "_law_alike", "_law_due", "_law_one", "_law_other", "_law_name"]) (sc := defScope s_law_joined_right) (by decide +kernel)) (fun _ _ _ _ _ => by exact (pg_name (i := 10) sc_law_joined_right.nd rfl (by first | exact Or.inl rfl | exact Or.inr rfl))) (fun _ _ _ _ _ => by exact (pts_one (PW.pt (pw_or (pt_cmp (pc_dnotin (Nat.lt_of_le_of_lt (Nat.add_le_add_left (by decide) _) hu) (pv 10) (pv 2)) rfl) (pw_or1 (pt_cmpR (op_neT (Nat.lt_of_le_of_lt (Nat.add_le_add_left (by decide) _) hu)) (pe_callD D_law_bare (hr.mono (by decide)) rfl (pa_cons (pe_dget (Nat.lt_of_le_of_lt (Nat.add_le_add_left (by decide) _) hu) (pv 2) (pv 10) (fun _ _ => rfl)) pa_nil)) (pe_callD D_law_bare (hr.mono (by decide)) rfl (pa_cons (pe_dget (Nat.lt_of_le_of_lt (Nat.add_le_add_left (by decide) _) hu) (pv 1) (pv 10) (fun _ _ => rfl)) pa_nil)) (nomark _))))))) (fun _ _ _ _ _ => by exact (pv 10)))) (pe_lstN pa_nil) (nomark _)))
      (pss_one (ps_ret (pe_and (pe_cmpR (op_sameK (K := K) rfl hu) (pe_cmpR (op_leO S_Book_le (hr.mono (by decide)) pass_E0) (pv 8) (pv 6) (nomark _)) (pv 7) (nomark _)) (pe_one (pe_cmpR (op_sameK (K := K) rfl hu) (pe_cmpR (op_eqO S_Book_eq (hr.mono (by decide)) pass_CX0) (pv 8) (pv 6) (nomark _)) (pe_and (pv 7) (pe_one (pe_cmpR (op_sameK (K := K) rfl hu) (pe_callB call_lenD rfl T.n_len (by decide +kernel) (pa_cons (pv 2) pa_nil)) (pe_callB call_lenD rfl T.n_len (by decide +kernel) (pa_cons (pv 1) pa_nil)) (nomark _)))) (nomark _))))))))))))))), ?_⟩
    obtain ⟨es, e1, e2, e3⟩ := en.ex
    obtain ⟨fs, f1, f2, f3⟩ := em.ex
    have few1 := en.few
    have few2 := em.few
    have le1 : es.length = ns.length := by rw [← e2, List.length_map]
    have le2 : fs.length = ms.length := by rw [← f2, List.length_map]
    -- the others that fit
    with_reducible refine setsU ?_
    refine cb1U ?_
    refine lc_pairsK (fun key => match key with | .inr n => !ns.contains n | .inl _ => false) (fun _ v => v) f1 (by rw [bD_length]; omega) (by show 10 < 11; decide) (fun od R r => ⟨_, rfl, r⟩) (fun od key v m H2 Q' sm q => ?_) (fun od key v m pk H2 Q' sm q => ?_) (fun D qs H1 s1 nD eD pr => ?_)
    · obtain ⟨z, hz, ez⟩ := List.mem_map.mp m
      cases ez
      refine ⟨_, rfl, _, rfl, t, _, rfl, .inl ⟨_, Sum.inr z.1, .inl (sm _ _ ((upd_ne ntu).trans e1)), rfl, rfl⟩, _, rfl, ?_⟩
      rw [valV_bD, Option.isSome_map, bat_has, e2]
      exact q
    · obtain ⟨z, hz, ez⟩ := List.mem_map.mp m
      cases ez
      exact ⟨_, rfl, _, rfl, u, .ref z.2, rfl, .inl ⟨_, Sum.inr z.1, .inr ⟨od, sm _ _ upd_same⟩, rfl, (em.get f1 f2 hz).symm⟩, q⟩
    have fl : ((bD fs).filter fun kv => match kv.1 with | .inr n => !ns.contains n | .inl _ => false) = bD (fs.filter fun z => !ns.contains z.1) := by
      unfold bD
      rw [List.filter_map]
      rfl
    rw [fl, List.map_id'] at pr
    have ef : (fs.filter fun z => !ns.contains z.1).map (·.1) = ms.filter fun m => !ns.contains m := by
      rw [← f2, List.filter_map]
      rfl
    have ndf : (ms.filter fun m => !ns.contains m).Nodup := em.nd.sublist List.filter_sublist
    have nk : ((bD (fs.filter fun z => !ns.contains z.1)).map (·.1)).Nodup := by rw [keys_bD, ef]; exact nd_inr ndf
    refine ⟨D, qs, _, rfl, SqL.of eD, Paired.mapP pr fun _ _ h => SqT.of h, fun F1 hF1 => ?_⟩
    rw [mergeK_new (bD (fs.filter fun z => !ns.contains z.1)) [] nk, List.nil_append]
    have sA := s1.trans (same_new (o := .dK (bD (fs.filter fun z => !ns.contains z.1))) hF1)
    have fA1 : (upd H1 F1 (.dK (bD (fs.filter fun z => !ns.contains z.1)))) F1 = some (.dK (bD (fs.filter fun z => !ns.contains z.1))) := upd_same
    have fA3 : ∀ z ∈ fs.filter (fun z => !ns.contains z.1), (upd H1 F1 (.dK (bD (fs.filter fun z => !ns.contains z.1)))) z.2 = some (.dT (plD (wg z.1))) := fun z hz => sA _ _ (f3 z (List.mem_filter.mp hz).1)
    have lf := List.length_filter_le (fun z : Str × Addr => !ns.contains z.1) fs
    generalize upd H1 F1 (.dK (bD (fs.filter fun z => !ns.contains z.1))) = HA at sA fA1 fA3 ⊢
    have efit : EntIs HA F1 ks d (ms.filter fun m => !ns.contains m) wg := ⟨⟨_, fA1, ef, fA3⟩, ndf, fun m hm => em.names m (List.mem_filter.mp hm).1, fun m hm => em.wts m (List.mem_filter.mp hm).1⟩
    have shA := s0.kp (.of sA)
    have enA := en.same sA
    have emA := em.same sA
    have eA1 := sA _ _ e1
    have eA3 : ∀ z ∈ es, HA z.2 = some (.dT (plD (wf z.1))) := fun z hz => sA _ _ (e3 z hz)
    have kA : ∀ H', Same HA H' → Q (.bl true) H' := fun H' z => k H' (sA.trans z)
    clear pr fl eD nD s1 hF1 sA e1 e3 f3 s0 en em k
    show tSeq _ _ _ [some (.ref sa), some (.ref t), some (.ref u), some (.ref F1), none, none, none, none, none, none, none] HA
    -- the two books
    with_reducible refine seqU ?_
    refine ⟨_, rfl, _, rfl, sa, t, ks, d, ns, wf, rfl, shA, enA, fun HB x1 t1 la sB hB pB bB => ?_⟩
    refine ⟨_, rfl, _, rfl, sa, F1, ks, d, _, wg, rfl, shA.kp (.of sB), efit.same sB, fun HC x2 t2 lb sC hC pC bC => ?_⟩
    refine ⟨_, _, rfl, ?_⟩
    have n12 : t1 ≠ t2 := bB.far (fun _ _ z => z) hC
    -- one function for what all of them hold
    have b1 := (bB.same sC).fn (wg := fun n => bare ks d (if ns.contains n = true then wf n else wg n)) fun n hn => by
      rw [if_pos (by simpa using pB.mem_iff.mp hn)]
    have mB : ∀ n, n ∈ lb ↔ n ∈ ms ∧ n ∉ ns := fun n => by
      rw [pC.mem_iff, List.mem_filter]
      simp
    have mA : ∀ n, n ∈ la ↔ n ∈ ns := fun n => pB.mem_iff
    have b2 := bC.fn (wg := fun n => bare ks d (if ns.contains n = true then wf n else wg n)) fun n hn => by
      rw [if_neg (by simpa using ((mB n).mp hn).2)]
    have sAC := sB.trans sC
    have shC := shA.kp (.of sAC)
    have fC1 := sAC _ _ fA1
    have fC3 : ∀ z ∈ fs.filter (fun z => !ns.contains z.1), HC z.2 = some (.dT (plD (wg z.1))) := fun z hz => sAC _ _ (fA3 z hz)
    have eC1 := sAC _ _ eA1
    have eC3 : ∀ z ∈ es, HC z.2 = some (.dT (plD (wf z.1))) := fun z hz => sAC _ _ (eA3 z hz)
    have efC := efit.same sAC
    have emC := emA.same sAC
    have enC := enA.same sAC
    have kC : ∀ H', Same HC H' → Q (.bl true) H' := fun H' z => kA H' (sAC.trans z)
    clear bB bC sAC sB sC hB hC shA fA1 fA3 eA1 eA3 efit emA enA kA
    show ({ nx := _, rt := _ } : Ends).nx [some (.ref sa), some (.ref t), some (.ref u), some (.ref F1), none, none, none, none, some (.ref x1), some (.ref x2), none] HC
    with_reducible refine nxsU ?_
    -- all entries
    with_reducible refine setsU ?_
    refine cb1U ?_
    with_reducible refine opU ?_
    refine lc_pairsK (fun _ => true) (fun _ v => v) eC1 (by rw [bD_length]; omega) (by show 10 < 11; decide) (fun od R r => ⟨_, rfl, r⟩) (fun od key v m H2 Q' sm q => q) (fun od key v m pk H2 Q' sm q => ?_) (fun Da qa H2 s2 nDa eDa pra => ?_)
    · obtain ⟨z, hz, ez⟩ := List.mem_map.mp m
      cases ez
      exact ⟨_, rfl, _, rfl, t, .ref z.2, rfl, .inl ⟨_, Sum.inr z.1, .inr ⟨od, sm _ _ upd_same⟩, rfl, (enC.get eC1 e2 hz).symm⟩, q⟩
    refine lc_pairsK (fun _ => true) (fun _ v => v) (s2 _ _ fC1) (by rw [bD_length]; omega) (by show 10 < 11; decide) (fun od R r => ⟨_, rfl, r⟩) (fun od key v m H3 Q' sm q => q) (fun od key v m pk H3 Q' sm q => ?_) (fun Db qb H3 s3 nDb eDb prb => ?_)
    · obtain ⟨z, hz, ez⟩ := List.mem_map.mp m
      cases ez
      exact ⟨_, rfl, _, rfl, F1, .ref z.2, rfl, .inl ⟨_, Sum.inr z.1, .inr ⟨od, sm _ _ upd_same⟩, rfl, (efC.get fC1 ef hz).symm⟩, q⟩
    rw [filt_all, List.map_id'] at pra prb
    have lqa := pra.length
    have lqb := prb.length
    rw [bD_length] at lqa lqb
    refine ⟨Da, Db, _, _, rfl, rfl, s3 _ _ eDa, eDb, by rw [List.length_map, List.length_map, sizeLine_eq]; omega, fun L hL => ?_⟩
    rw [← List.map_append]
    have s4 := same_new (o := .lst ((qa ++ qb).map V.ref)) hL
    have e12 : bD (es ++ fs.filter fun z => !ns.contains z.1) = bD es ++ bD (fs.filter fun z => !ns.contains z.1) := by unfold bD; rw [List.map_append]
    have ek12 : (es ++ fs.filter fun z => !ns.contains z.1).map (·.1) = ns ++ ms.filter fun m => !ns.contains m := by rw [List.map_append, e2, ef]
    have nd12 : (ns ++ ms.filter fun m => !ns.contains m).Nodup := List.nodup_append.mpr ⟨enC.nd, ndf, fun a ha b hb q => by
      have := (List.mem_filter.mp hb).2
      rw [← q] at this
      simp [ha] at this⟩
    have nk12 : ((bD (es ++ fs.filter fun z => !ns.contains z.1)).map (·.1)).Nodup := by rw [keys_bD, ek12]; exact nd_inr nd12
    refine ⟨L, qa ++ qb, bD (es ++ fs.filter fun z => !ns.contains z.1), rfl, SqL.of upd_same, by rw [e12]; exact paired_app (Paired.mapP pra fun _ _ h => SqT.of (s4 _ _ (s3 _ _ h))) (Paired.mapP prb fun _ _ h => SqT.of (s4 _ _ h)), fun M hM => ?_⟩
    rw [mergeK_new (bD (es ++ fs.filter fun z => !ns.contains z.1)) [] nk12, List.nil_append]
    have sD := (s2.trans (s3.trans s4)).trans (same_new (o := .dK (bD (es ++ fs.filter fun z => !ns.contains z.1))) hM)
    have eM : (upd (upd H3 L (.lst ((qa ++ qb).map V.ref))) M (.dK (bD (es ++ fs.filter fun z => !ns.contains z.1)))) M = some (.dK (bD (es ++ fs.filter fun z => !ns.contains z.1))) := upd_same
    generalize upd (upd H3 L (.lst ((qa ++ qb).map V.ref))) M (.dK (bD (es ++ fs.filter fun z => !ns.contains z.1))) = HD at sD eM ⊢
    have enM : EntIs HD M ks d (ns ++ ms.filter fun m => !ns.contains m) (fun n => if ns.contains n = true then wf n else wg n) := by
      refine ⟨⟨_, eM, ek12, fun z hz => ?_⟩, nd12, fun m hm => ?_, fun m hm => ?_⟩
      · rcases List.mem_append.mp hz with hz | hz
        · have m1 : z.1 ∈ ns := by rw [← e2]; exact List.mem_map_of_mem hz
          rw [if_pos (by simpa using m1)]
          exact sD _ _ (eC3 z hz)
        · have m2 := (List.mem_filter.mp hz).2
          rw [if_neg (by simpa using m2)]
          exact sD _ _ (fC3 z hz)
      · rcases List.mem_append.mp hm with hm | hm
        · exact enC.names m hm
        · exact emC.names m (List.mem_filter.mp hm).1
      · show Wts ks d (if ns.contains m = true then wf m else wg m)
        rcases List.mem_append.mp hm with hm | hm
        · rw [if_pos (by simpa using hm)]
          exact enC.wts m hm
        · have m2 := (List.mem_filter.mp hm).2
          rw [if_neg (by simpa using m2)]
          exact emC.wts m (List.mem_filter.mp hm).1
    have shD := shC.kp (.of sD)
    have b1D := b1.same sD
    have b2D := b2.same sD
    have efD := efC.same sD
    have emD := emC.same sD
    have enD := enC.same sD
    have kD : ∀ H', Same HD H' → Q (.bl true) H' := fun H' z => kC H' (sD.trans z)
    clear pra prb e12 ek12 nd12 nk12 eM sD s2 s3 s4 eDa eDb nDa nDb hL hM b1 b2 shC fC1 fC3 eC1 eC3 efC emC enC kC
    show tSeq _ _ _ [some (.ref sa), some (.ref t), some (.ref u), some (.ref F1), some (.ref M), none, none, none, some (.ref x1), some (.ref x2), none] HD
    -- both held
    with_reducible refine setsU ?_
    refine ⟨_, rfl, ?_⟩
    show tSeq _ _ _ [some (.ref sa), some (.ref t), some (.ref u), some (.ref F1), some (.ref M), some (.ref x1), none, none, some (.ref x1), some (.ref x2), none] HD
    with_reducible refine seqU ?_
    have la6 : la.length ≤ 6 := by rw [pB.length_eq]; exact few1
    have lb6 : lb.length ≤ 6 := by
      have := List.length_filter_le (fun m => !ns.contains m) ms
      rw [pC.length_eq]
      omega
    refine ⟨_, rfl, _, rfl, or_books b1D b2D shD (fun n h1 h2 => dtSame_self (b1D.wok n h1).nd) (by omega) fun HE x3 t3 lh sE hE pE bE => ?_⟩
    have mH : ∀ n, n ∈ lh ↔ n ∈ ns ∨ n ∈ ms := fun n => by
      rw [pE.mem_iff, List.mem_append, List.mem_filter, mA, mB]
      by_cases c : n ∈ ns
      · simp [c]
      · simp [c, mA]
    have bH := bE.fn (wg := fun n => bare ks d (if ns.contains n = true then wf n else wg n)) fun n _ => by split <;> rfl
    have lh6 : lh.length ≤ 6 := nodup_len bH.nd fun n hn => (mH n).mp hn |>.elim (enD.names n) (emD.names n)
    have n13 : t1 ≠ t3 := b1D.far (fun _ _ z => z) hE
    have n23 : t2 ≠ t3 := b2D.far (fun _ _ z => z) hE
    show ({ nx := _, rt := _ } : Ends).nx [some (.ref sa), some (.ref t), some (.ref u), some (.ref F1), some (.ref M), some (.ref x3), none, none, some (.ref x1), some (.ref x2), none] HE
    have b1E := b1D.same sE
    have b2E := b2D.same sE
    have enME := enM.same sE
    have shE := shD.kp (.of sE)
    have emE := emD.same sE
    have enE := enD.same sE
    have efE := efD.same sE
    have kE : ∀ H', Same HE H' → Q (.bl true) H' := fun H' z => kD H' (sE.trans z)
    have w1 := b1E.wok
    have w2 := b2E.wok
    have wH := bH.wok
    clear bE pE hE sE b1D b2D enM shD emD enD efD kD
    with_reducible refine nxsU ?_
    with_reducible refine seqU ?_
    with_reducible refine ifU ?_
    -- as the book of all entries
    with_reducible refine torU ?_
    with_reducible refine testU ?_
    with_reducible refine opU ?_
    refine ⟨_, rfl, _, rfl, _, rfl, sa, M, ks, d, _, _, rfl, shE, enME, fun HG x4 t4 lc sG hG pG bG => ?_⟩
    refine ne_books T (bH.same sG) bG (bH.far (fun _ _ z => z) hG) (shE.kp (.of sG)) ?_
    rw [bkSame_is (bH.same sG) bG (same_names bH.nd bG.nd fun n => by
      rw [mH, pG.mem_iff, List.mem_append, List.mem_filter]
      by_cases c : n ∈ ns
      · simp [c]
      · simp [c])]
    refine ⟨_, rfl, ite2 (fun c => absurd c (by decide)) fun _ => ?_⟩
    -- put together the other way round
    with_reducible refine torU ?_
    with_reducible refine testU ?_
    with_reducible refine opU ?_
    have shG := shE.kp (.of sG)
    refine ⟨_, rfl, _, rfl, _, rfl, or_books (b2E.same sG) (b1E.same sG) shG (fun n h1 h2 => dtSame_self (w2 n h1).nd) (by omega) fun HI x5 t5 ld sI hI pI bI => ?_⟩
    have sEI := sG.trans sI
    have bI' := bI.fn (wg := fun n => bare ks d (if ns.contains n = true then wf n else wg n)) fun n _ => by split <;> rfl
    refine ne_books T (bH.same sEI) bI' ((bH.same sG).far (fun _ _ z => z) hI) (shE.kp (.of sEI)) ?_
    rw [bkSame_is (bH.same sEI) bI' (same_names bH.nd bI.nd fun n => by
      rw [mH, pI.mem_iff, List.mem_append, List.mem_filter, mA, mB]
      by_cases c : n ∈ ns
      · simp [c, mB]
      · simp [c])]
    refine ⟨_, rfl, ite2 (fun c => absurd c (by decide)) fun _ => ?_⟩
    -- one with itself
    with_reducible refine torU ?_
    with_reducible refine testU ?_
    with_reducible refine opU ?_
    refine ⟨_, rfl, _, rfl, or_books (b1E.same sEI) (b1E.same sEI) (shE.kp (.of sEI)) (fun n h1 h2 => dtSame_self (w1 n h1).nd) (by omega) fun HJ x6 t6 lj sJ hJ pJ bJ => ?_⟩
    have sEJ := sEI.trans sJ
    have bJ' := bJ.fn (wg := fun n => bare ks d (if ns.contains n = true then wf n else wg n)) fun n _ => by split <;> rfl
    refine ⟨_, rfl, ne_books T bJ' (b1E.same sEJ) (Ne.symm ((b1E.same sEI).far (fun _ _ z => z) hJ)) (shE.kp (.of sEJ)) ?_⟩
    rw [bkSame_is bJ' (b1E.same sEJ) (same_names bJ.nd b1E.nd fun n => by
      rw [pJ.mem_iff, List.mem_append, List.mem_filter]
      by_cases c : n ∈ la
      · simp [c]
      · simp [c])]
    refine ⟨_, rfl, ite2 (fun c => absurd c (by decide)) fun _ => ?_⟩
    -- one with both
    with_reducible refine testU ?_
    with_reducible refine opU ?_
    refine ⟨_, rfl, _, rfl, or_books (b1E.same sEJ) (bH.same sEJ) (shE.kp (.of sEJ)) (fun n h1 h2 => dtSame_self (w1 n h1).nd) (by omega) fun HK x7 t7 lk sK hK pK bK => ?_⟩
    have sEK := sEJ.trans sK
    have bK' := bK.fn (wg := fun n => bare ks d (if ns.contains n = true then wf n else wg n)) fun n _ => by split <;> rfl
    refine ⟨_, rfl, ne_books T bK' (bH.same sEK) (Ne.symm ((bH.same sEJ).far (fun _ _ z => z) hK)) (shE.kp (.of sEK)) ?_⟩
    rw [bkSame_is bK' (bH.same sEK) (same_names bK.nd bH.nd fun n => by
      rw [pK.mem_iff, List.mem_append, List.mem_filter, mA, mH]
      by_cases c : n ∈ ns
      · simp [c]
      · simp [c, mA])]
    refine ⟨_, rfl, ite2 (fun c => absurd c (by decide)) fun _ => ?_⟩
    have b1K := b1E.same sEK
    have b2K := b2E.same sEK
    have bHK := bH.same sEK
    have shK := shE.kp (.of sEK)
    have emK := emE.same sEK
    have enK := enE.same sEK
    have efK := efE.same sEK
    have kK : ∀ H', Same HK H' → Q (.bl true) H' := fun H' z => kE H' (sEK.trans z)
    clear bK' bK pK hK sK bJ' bJ pJ hJ sJ bI' bI pI hI sI bG pG hG sG sEI sEJ sEK shG b1E b2E bH shE emE enE efE kE enME
    with_reducible refine nxU ?_
    -- what is in what
    with_reducible refine seqU ?_
    with_reducible refine ifU ?_
    with_reducible refine torU ?_
    with_reducible refine tnotU ?_
    with_reducible refine testU ?_
    with_reducible refine opU ?_
    refine ⟨_, rfl, _, rfl, le_books T b1K bHK n13 shK fun HL sL => ?_⟩
    rw [bkLe_self (ks := ks) (d := d) (fun n hn => (mH n).mpr (.inl ((mA n).mp hn))) w1]
    refine ⟨_, rfl, ite2 (fun c => absurd c (by decide)) fun _ => ?_⟩
    with_reducible refine torU ?_
    with_reducible refine tnotU ?_
    with_reducible refine testU ?_
    with_reducible refine opU ?_
    refine ⟨_, rfl, _, rfl, le_books T (b2K.same sL) (bHK.same sL) n23 (shK.kp (.of sL)) fun HM sM => ?_⟩
    rw [bkLe_self (ks := ks) (d := d) (fun n hn => (mH n).mpr (.inr ((mB n).mp hn).1)) w2]
    refine ⟨_, rfl, ite2 (fun c => absurd c (by decide)) fun _ => ?_⟩
    have sKM := sL.trans sM
    with_reducible refine testU ?_
    with_reducible refine opU ?_
    with_reducible refine opU ?_
    refine ⟨_, rfl, _, rfl, le_books T (bHK.same sKM) (b1K.same sKM) (Ne.symm n13) (shK.kp (.of sKM)) fun HN sN => ?_⟩
    have sKN := sKM.trans sN
    obtain ⟨gs, g1, g2, g3⟩ := (efK.same sKN).ex
    with_reducible refine opU ?_
    refine ⟨_, rfl, fun Z hZ => ?_⟩
    have sZ := same_new (o := .dK []) hZ
    have nZ : F1 ≠ Z := fun q => by rw [q, hZ] at g1; cases g1
    refine ⟨F1, Z, bD gs, [], fun _ _ _ => false, rfl, rfl, nZ, sZ _ _ g1, upd_same, (fun _ _ _ _ _ _ z => by rw [valV_nil] at z; cases z), ?_⟩
    rw [dkSame_nil]
    have sub : bkLe lh (fun n => bare ks d (if ns.contains n = true then wf n else wg n)) la (fun n => bare ks d (if ns.contains n = true then wf n else wg n)) = (bD gs).isEmpty := by
      cases gs with
      | nil =>
        have none : ∀ m, m ∈ ms → m ∈ ns := fun m hm => by
          by_cases c : m ∈ ns
          · exact c
          · have : m ∈ ms.filter fun m => !ns.contains m := List.mem_filter.mpr ⟨hm, by simpa using c⟩
            rw [← g2] at this
            cases this
        exact bkLe_self (ks := ks) (d := d) (fun n hn => (mA n).mpr (((mH n).mp hn).elim id (none n))) wH
      | cons z r =>
        have hz : z.1 ∈ ms.filter fun m => !ns.contains m := by rw [← g2]; exact List.mem_cons_self
        obtain ⟨h1, h2⟩ := List.mem_filter.mp hz
        exact bkLe_no ((mH z.1).mpr (.inr h1)) fun q => by
          have := (mA z.1).mp q
          simp [this] at h2
    refine .inl ⟨rfl, _, rfl, ite2 (fun c => absurd c (by rw [sub, decide_eq_true rfl]; decide)) fun _ => ?_⟩
    have sKZ := sKN.trans sZ
    have b1Z := b1K.same sKZ
    have shZ := shK.kp (.of sKZ)
    have emZ := emK.same sKZ
    have enZ := enK.same sKZ
    have kZ : ∀ H', Same (upd HN Z (.dK [])) H' → Q (.bl true) H' := fun H' z => kK H' (sKZ.trans z)
    generalize upd HN Z (.dK []) = HZ at sZ sKZ b1Z shZ emZ enZ kZ ⊢
    clear sub nZ g1 g2 g3 sZ hZ sKZ sKN sN sKM sM sL b1K b2K bHK shK emK enK efK kK
    with_reducible refine nxU ?_
    with_reducible refine setsU ?_
    refine ⟨_, rfl, _, rfl, sa, u, ks, d, ms, wg, rfl, shZ, emZ, fun HP x8 t8 le sP hP pP bP => ?_⟩
    have b1P := ((b1Z.same sP).fn (wg := fun n => bare ks d (wf n)) fun n hn => by rw [if_pos (by simpa using (mA n).mp hn)])
    have n18 : t1 ≠ t8 := b1Z.far (fun _ _ z => z) hP
    have shP := shZ.kp (.of sP)
    have emP := emZ.same sP
    have enP := enZ.same sP
    have kP : ∀ H', Same HP H' → Q (.bl true) H' := fun H' z => kZ H' (sP.trans z)
    clear b1Z shZ emZ enZ kZ sP hP
    show tSeq _ _ _ [some (.ref sa), some (.ref t), some (.ref u), some (.ref F1), some (.ref M), some (.ref x3), some (.ref x8), none, some (.ref x1), some (.ref x2), none] HP
    -- what is due
    obtain ⟨es5, a1, a2, a3⟩ := enP.ex
    obtain ⟨fs5, c1, c2, c3⟩ := emP.ex
    have le5 : es5.length = ns.length := by rw [← a2, List.length_map]
    with_reducible refine setsU ?_
    with_reducible refine opU ?_
    refine lc_keysC (fun key => match key with | .inr n => !(ms.contains n && dtSame (plD (bareL (wg n))) (plD (bareL (wf n)))) | .inl _ => false) (fun key => kV key) a1 (by rw [bD_length]; omega) (by show 10 < 11; decide) (fun od R r => ⟨_, rfl, t, od, rfl, .inl ⟨bD es5, upd_same, r⟩⟩) (fun od key v m H2 Q' sm q => ?_) (fun od key v _ _ H3 Q' _ q => ⟨_, rfl, q⟩) (fun D7 H7 s7 nD7 eD7 => ?_)
    · obtain ⟨z, hz, ez⟩ := List.mem_map.mp m
      cases ez
      have m1 : z.1 ∈ ns := by rw [← a2]; exact List.mem_map_of_mem hz
      have nt : ∀ {b o}, HP b = some o → (∀ kvs, o ≠ .dK kvs) → H2 b = some o := fun {b o} h n => sm _ _ ((upd_ne fun q => by rw [q, a1] at h; exact n _ (Option.some.inj h).symm).trans h)
      have du := sm _ _ ((upd_ne (Ne.symm ntu)).trans c1)
      with_reducible refine torU ?_
      with_reducible refine bU ?_
      refine ⟨_, rfl, _, rfl, u, _, rfl, .inl ⟨_, Sum.inr z.1, .inl du, rfl, rfl⟩, _, rfl, ?_⟩
      rw [valV_bD, Option.isSome_map, bat_has, c2]
      cases c : ms.contains z.1 with
      | false =>
        dsimp only at q
        rw [c] at q
        exact q _ fun _ _ z => z
      | true =>
        dsimp only at q
        rw [c, Bool.true_and] at q
        refine ite2 (fun h => absurd h (by decide)) fun _ => ?_
        obtain ⟨y, hy, ey⟩ := List.mem_map.mp (show z.1 ∈ fs5.map (·.1) by rw [c2]; simpa using c)
        have m2 : z.1 ∈ ms := by simpa using c
        have wz1 := enP.wts _ m1
        have wz2 := emP.wts _ m2
        have vb : valV (bD fs5) (Sum.inr z.1) = some (.ref y.2) := by rw [← ey]; exact emP.get c1 c2 hy
        with_reducible refine testU ?_
        with_reducible refine opU ?_
        have l40 : ∀ {ws : List (Pl × Int)}, Wts ks d ws → ws.length ≤ 40 := fun {ws} w => by
          have z := w.sub.length_le
          rw [List.length_map, length_places] at z
          have := shP.ok.few
          omega
        refine ⟨_, rfl, _, rfl, u, .ref y.2, rfl, .inl ⟨_, Sum.inr z.1, .inl du, rfl, vb.symm⟩, y.2, wg z.1, rfl, by rw [← ey]; exact nt (c3 y hy) (fun _ q => nomatch q), wz2.nd shP.ok, l40 wz2, fun H3 b3 s3 nb3 eb3 => ?_⟩
        refine ⟨_, rfl, _, rfl, t, .ref z.2, rfl, .inl ⟨_, Sum.inr z.1, .inr ⟨od, s3 _ _ (sm _ _ upd_same)⟩, rfl, (enP.get a1 a2 hz).symm⟩, z.2, wf z.1, rfl, s3 _ _ (nt (a3 z hz) (fun _ q => nomatch q)), wz1.nd shP.ok, l40 wz1, fun H4 b4 s4 nb4 eb4 => ?_⟩
        exact ⟨b3, b4, _, _, rfl, rfl, s4 _ _ eb3, eb4, ints_plD _, ints_plD _, _, rfl, q _ (s3.trans s4)⟩
    rw [keys_bD, a2] at eD7
    have eD7' : H7 D7 = some (.lst ((ns.filter fun n => !(ms.contains n && dtSame (plD (bareL (wg n))) (plD (bareL (wf n))))).map V.str)) := eD7.trans (by rw [List.filter_map, List.map_map]; rfl)
    refine ⟨by show 0 ≤ sizeLine; omega, fun L7 hL7 _ => ?_⟩
    have sL7 := same_new (o := .lst []) hL7
    have okn : ((ns.filter fun n => !(ms.contains n && dtSame (plD (bareL (wg n))) (plD (bareL (wf n))))).all fun x => PyData.strOk x) = true := List.all_eq_true.mpr fun n hn => ent_str (enP.names _ (List.mem_filter.mp hn).1)
    refine strs_eq_nil okn (sL7 _ _ eD7') upd_same ?_
    have due : (ns.filter fun n => !(ms.contains n && dtSame (plD (bareL (wg n))) (plD (bareL (wf n))))).isEmpty = bkLe la (fun n => bare ks d (wf n)) le (fun n => bare ks d (wg n)) := by
      have e1 : bkLe la (fun n => bare ks d (wf n)) le (fun n => bare ks d (wg n)) = ns.all fun n => ms.contains n && dtSame (plD (bareL (wg n))) (plD (bareL (wf n))) := by
        unfold bkLe
        rw [pB.all_eq]
        refine all_mem fun n hn => ?_
        have ce : le.contains n = ms.contains n := by
          rw [Bool.eq_iff_iff, List.contains_iff_mem, List.contains_iff_mem]
          exact pP.mem_iff
        rw [ce]
        cases c : ms.contains n with
        | false => rfl
        | true =>
          have w1 := enP.wts n hn
          have w2 := emP.wts n (by simpa using c)
          dsimp only
          rw [bare_bareL w1 shP.ok, bare_bareL w2 shP.ok, dtSame_comm (nd_bareL (w1.nd shP.ok)) (nd_bareL (w2.nd shP.ok))]
      rw [e1]
      cases c : ns.all fun n => ms.contains n && dtSame (plD (bareL (wg n))) (plD (bareL (wf n))) with
      | true =>
        rw [List.isEmpty_iff, List.filter_eq_nil_iff]
        intro n hn
        rw [List.all_eq_true.mp c n hn]
        decide
      | false =>
        obtain ⟨n, hn, h⟩ := List.all_eq_false.mp c
        cases c2 : ns.filter fun n => !(ms.contains n && dtSame (plD (bareL (wg n))) (plD (bareL (wf n)))) with
        | cons _ _ => rfl
        | nil =>
          have := List.filter_eq_nil_iff.mp c2 n hn
          cases c3 : (ms.contains n && dtSame (plD (bareL (wg n))) (plD (bareL (wf n)))) with
          | true => exact absurd c3 h
          | false => rw [c3] at this; exact absurd rfl this
    rw [due]
    have sP7 := s7.trans sL7
    have b1Q := b1P.same sP7
    have b8Q := bP.same sP7
    have shQ := shP.kp (.of sP7)
    have kQ : ∀ H', Same (upd H7 L7 (.lst [])) H' → Q (.bl true) H' := fun H' z => kP H' (sP7.trans z)
    have dt := sP7 _ _ a1
    have du := sP7 _ _ c1
    generalize upd H7 L7 (.lst []) = HQ at sL7 sP7 b1Q b8Q shQ kQ dt du ⊢
    show tRet _ _ [some (.ref sa), some (.ref t), some (.ref u), some (.ref F1), some (.ref M), some (.ref x3), some (.ref x8), some (.bl (bkLe la (fun n => bare ks d (wf n)) le (fun n => bare ks d (wg n)))), some (.ref x1), some (.ref x2), none] HQ
    with_reducible refine retU ?_
    with_reducible refine andvU ?_
    with_reducible refine opU ?_
    with_reducible refine opU ?_
    refine ⟨_, rfl, _, rfl, le_books T b1Q b8Q n18 shQ fun HR sR => ?_⟩
    refine ⟨_, rfl, .inl ⟨rfl, _, rfl, ite2 (fun _ => ?_) (fun c => absurd (decide_eq_true rfl) c)⟩⟩
    with_reducible refine opU ?_
    with_reducible refine opU ?_
    refine ⟨_, rfl, _, rfl, eq_books T (b1Q.same sR) (b8Q.same sR) n18 (shQ.kp (.of sR)) ?_⟩
    with_reducible refine andvU ?_
    refine ⟨_, rfl, _, rfl, ?_⟩
    have l1 : la.length = ns.length := pB.length_eq
    have l8 : le.length = ms.length := pP.length_eq
    unfold bkSame
    rw [l1, l8]
    have ll : ∀ {es : BL} {ns : List Str}, es.map (·.1) = ns → ((bD es).length : Int) = (ns.length : Int) := fun {es ns} e => by rw [bD_length, ← e, List.length_map]
    cases c : bkLe la (fun n => bare ks d (wf n)) le (fun n => bare ks d (wg n)) with
    | false =>
      rw [Bool.and_false]
      exact .inl ⟨rfl, kQ _ sR⟩
    | true =>
      rw [Bool.and_true]
      refine ite2 (fun _ => ?_) (fun c => absurd rfl c)
      with_reducible refine opU ?_
      refine ⟨_, rfl, u, _, rfl, sR _ _ du, ?_⟩
      refine ⟨_, rfl, t, _, rfl, sR _ _ dt, .inl ⟨rfl, .inl ⟨rfl, ?_⟩⟩⟩
      rw [ll c2, ll a2]
      have e5 : (ns.length == ms.length) = decide (V.int (ms.length : Int) = V.int (ns.length : Int)) := by
        by_cases h : ns.length = ms.length
        · rw [h, decide_eq_true rfl]
          exact beq_self_eq_true _
        · rw [decide_eq_false fun q => h (by injection q with q; omega)]
          simpa using h
      rw [e5, decide_eq_true rfl]
      exact kQ _ sR
end
end L2.K20
set_option Elab.async false
set_option linter.all false
set_option maxRecDepth 100000
set_option maxHeartbeats 4000000
/-! The law itself. -/
namespace L2.K20
open PySem PySem.Spec PyProof.Rows L2.RV
theorem nxwU {f : L2.St → Hp → Prop} {rt : VK} {bk ct : L2.St → Hp → Prop} {σ : L2.St} {H : Hp} (h : f σ H) : ({ nx := f, rt := rt, bk := bk, ct := ct } : Ends).nx σ H := h
/-- law(script) -/
def spLaw (K : PySem.W.Frag) : Sp := fun vs H Q _ => ∃ (a : Addr) (ns : List Int), vs = [.ref a] ∧ SqL K H a (ns.map V.int) ∧ ns.length ≤ 63 ∧ ∀ H', Q (.bl true) H'
/-- Book(shape, pair, ..) -/
theorem sp_book {K : PySem.W.Frag} {H : Hp} {x dx s : Addr} {ks : List Str} {d : Nat} {bs : List Addr} {es : BL} {wf : WF} {Q : VK} {E : XK} (hx : H x = none) (hdx : H dx = none) (ne : dx ≠ x) (s0 : ShapeAt K H s ks d) (len : bs.length = es.length) (tups : ∀ (i : Nat) b z, bs[i]? = some b → es[i]? = some z → H b = some (.tup [.str z.1, .ref z.2]))
    (qs : ∀ z ∈ es, ∃ tq, HeldX K H "Question" "weights" z.2 s tq (wf z.1)) (nd : (es.map (·.1)).Nodup) (few : es.length ≤ 12) (good : ∀ z ∈ es, z.1.length ≤ sizeLine ∧ isName z.1 = true) (wok : ∀ z ∈ es, WOk ks d (wf z.1))
    (k : ∀ H' t' ls, Same H H' → H t' = none → ls.Perm (es.map (·.1)) → BookIs K H' x t' s ks d ls wf → Q .non H') : spBook K (.ref x :: .ref s :: bs.map V.ref) (upd (upd H dx (.own x)) x (.ins (He.ga K "Book") dx [])) Q E := by
  have sM := made_mid (o := .ins (He.ga K "Book") dx []) hx hdx
  have s1 := s0.kp (.of sM)
  refine ⟨x, dx, s, ks, d, bs, es, rfl, upd_same, (upd_ne ne).trans upd_same, s1, len, fun i b z hb hz => ?_, nd, by omega, fun H1 t1 gs k1 ht1 pm so bc => ?_⟩
  · have m := List.mem_of_getElem? hz
    obtain ⟨tq, h⟩ := qs z m
    exact ⟨sM _ _ (tups i b z hb hz), (good z m).1, (good z m).2, s, ks, d, (h.same sM).held.of, s1, shapeEq_self d s1.good⟩
  · have sm := made_same hx hdx k1
    have mem : ∀ n ∈ es.map (·.1), ∃ z ∈ es, z.1 = n := fun n hn => by
      obtain ⟨z, hz, e⟩ := List.mem_map.mp hn
      exact ⟨z, hz, e⟩
    obtain ⟨p, bi⟩ := bookIs_of (wf := wf) (ks := ks) (d := d) (ns := es.map (·.1)) bc pm so (.refl _) nd (by rw [List.length_map]; exact few) (fun z hz => let ⟨tq, h⟩ := qs z hz; ⟨tq, h.same sm⟩) (fun n hn => by obtain ⟨z, hz, rfl⟩ := mem n hn; exact good z hz) (fun n hn => by obtain ⟨z, hz, rfl⟩ := mem n hn; exact wok z hz)
    exact k H1 t1 _ sm (sM.free ht1) p bi
theorem HeldX.sameX {K : PySem.W.Frag} {H H' : Hp} {x f : Str} {a s b : Addr} {ws : List (Pl × Int)} (h : HeldX K H x f a s b ws) (k : SameX H H') : HeldX K H' x f a s b ws := by
  obtain ⟨dx, fs, e1, e2, e3, e4⟩ := h
  exact ⟨dx, fs, k _ _ (fun _ z => nomatch z) (fun _ _ z => nomatch z) e1, e2, e3, k _ _ (fun _ z => nomatch z) (fun _ _ z => nomatch z) e4⟩
section
variable {P : Program} {w : World} {K : PySem.W.Frag} {mg : Str → Option Value} {base : Heap} {fd : FuncData}
theorem ok_law (T : Top w K mg) (D_law_pen : Def P w K mg base "_law_pen" 1 ["_law_script"] (spPen K)) (D_law_shape : Def P w K mg base "_law_shape" 5 ["_law_pen_here"] (spLShape K)) (D_law_entries : Def P w K mg base "_law_entries" 4 ["_law_pen_here", "_law_shape_here", "_law_most"] (spEntries K)) (D_law_book : Def P w K mg base "_law_book" 11 ["_law_shape_here", "_law_entries_here"] (spLBook K)) (D_law_told_right : Def P w K mg base "_law_told_right" 11 ["_law_book_here", "_law_shape_here", "_law_entries_here"] (spTold K)) (D_law_answers_right : Def P w K mg base "_law_answers_right" 10 ["_law_pen_here", "_law_book_here", "_law_shape_here", "_law_entries_here"] (spAnswers K)) (D_law_changed_right : Def P w K mg base "_law_changed_right" 13 ["_law_pen_here", "_law_book_here", "_law_shape_here", "_law_entries_here"] (spChanged K)) (D_law_joined_right : Def P w K mg base "_law_joined_right" 13 ["_law_shape_here", "_law_entries_here", "_law_others"] (spJoined K)) (C_Question : MakeX (L2.CX P w) P w K mg base "Question" (He.ga K "Question") 8 ["self", "shape", "weights"] [] (spQuestion K)) (C_Table : MakeX (L2.CX P w) P w K mg base "Table" (He.ga K "Table") 5 ["self", "shape", "amounts"] [.non] (spTable K)) (C_Shape : MakeX (L2.CX P w) P w K mg base "Shape" (He.ga K "Shape") 3 ["self", "keys", "days"] [] (spShapeInit K)) (C_Book : MakeR (L2.CX P w) P w K mg base "Book" (He.ga K "Book") 6 (spBook K)) (CO_Book : CallX (L2.CX P w) P w K mg base (He.ga K "Book") 8 ["self", "table"] ["table"] (spBookCall K)) (S_Book_eq : MethS CX0 P w K mg base (He.ga K "Book") "__eq__" 6 ["self", "other"] (spBookEq K)) (S_Book_str : MethS CX0 P w K mg base (He.ga K "Book") "__str__" 10 ["self"] (spBookStr K)) (F : Fn K "law" s_law fd) : FnOk P w K mg base CX0 15 (He.ga K "law") fd ["_law_script"] (spLaw K) := by
  refine F.ok sc_law (fun vs H Q E h => ?_) (fun cdv A outer s H vs Q E hr h => ?_)
  · obtain ⟨a, ns, rfl, _⟩ := h
    rfl
  · obtain ⟨a0, ns0, rfl, hS, few0, kk⟩ := h
    have hu := hr.units
    refine ⟨_, PSs.nox (pss_cons (ps_set (i := 1) sc_law.nd rfl (by first | exact Or.inl rfl | exact Or.inr rfl) (pe_callD D_law_pen (hr.mono (by decide)) rfl (pa_cons (pv 0) pa_nil)))
      (pss_cons (ps_for PassesOwn.never rfl (pi_range1 rfl T.n_range (pa_cons pe_int pa_nil)) (pg_name (i := 2) sc_law.nd rfl (by first | exact Or.inl rfl | exact Or.inr rfl)) (pss_cons (ps_set (i := 3) sc_law.nd rfl (by first | exact Or.inl rfl | exact Or.inr rfl) (pe_callD D_law_shape (hr.mono (by decide)) rfl (pa_cons (pv 1) pa_nil)))
      (pss_cons (ps_asg (pe_tup (pa_cons (pe_callD D_law_entries (hr.mono (by decide)) rfl (pa_cons (pv 1) (pa_cons (pv 3) (pa_cons pe_int pa_nil)))) (pa_cons (pe_callD D_law_entries (hr.mono (by decide)) rfl (pa_cons (pv 1) (pa_cons (pv 3) (pa_cons pe_int pa_nil)))) pa_nil))) (pg_tup rfl (pgs_cons (pg_name (i := 7) sc_law.nd rfl (by first | exact Or.inl rfl | exact Or.inr rfl)) (pgs_cons (pg_name (i := 8) sc_law.nd rfl (by first | exact Or.inl rfl | exact Or.inr rfl)) pgs_nil))))
      (pss_cons (ps_set (i := 4) sc_law.nd rfl (by first | exact Or.inl rfl | exact Or.inr rfl) (pe_callD D_law_book (hr.mono (by decide)) rfl (pa_cons (pv 3) (pa_cons (pv 7) pa_nil))))
      (pss_cons (ps_if (PW.pt (pw_or (pt_not (pt_val (pe_callD D_law_told_right (hr.mono (by decide)) rfl (pa_cons (pv 4) (pa_cons (pv 3) (pa_cons (pv 7) pa_nil)))))) (pw_or1 (pt_not (pt_val (pe_callD D_law_answers_right (hr.mono (by decide)) rfl (pa_cons (pv 1) (pa_cons (pv 4) (pa_cons (pv 3) (pa_cons (pv 7) pa_nil)))))))))) (pss_one (ps_ret pe_bl)) pss_nil)
      (pss_cons (ps_if (PW.pt (pw_or (pt_not (pt_val (pe_callD D_law_changed_right (hr.mono (by decide)) rfl (pa_cons (pv 1) (pa_cons (pv 4) (pa_cons (pv 3) (pa_cons (pv 7) pa_nil))))))) (pw_or1 (pt_not (pt_val (pe_callD D_law_joined_right (hr.mono (by decide)) rfl (pa_cons (pv 3) (pa_cons (pv 7) (pa_cons (pv 8) pa_nil))))))))) (pss_one (ps_ret pe_bl)) pss_nil)
      (pss_cons (ps_lock (ps_setLc (i := 5) (own := [("_law_name", 9)]) (g := gName 9) (tt := tYes) (by rfl) sc_law.nd rfl rfl (sw_true rfl rfl rfl (by decide +kernel)) (pi_keys (pv 7)) (blkOk_by (own := [("_law_name", 9)]) (N := ["_law_script", "_law_pen_here", "_law_turn", "_law_shape_here", "_law_book_here", "_law_pairs", "_law_far", "_law_entries_here", "_law_others", "_law_name"]) (sc := defScope s_law) (by decide +kernel)) (fun _ _ _ _ _ => by exact (pg_name (i := 9) sc_law.nd rfl (by first | exact Or.inl rfl | exact Or.inr rfl))) (fun _ _ _ _ _ => by exact pts_nil) (fun _ _ _ _ _ => by exact (pe_tup (pa_cons (pv 9) (pa_cons (pe_mkX C_Question (hr.mono (by decide)) rfl pass_E0 (pa_cons (pv 3) (pa_cons (pe_dget (Nat.lt_of_le_of_lt (Nat.add_le_add_left (by decide) _) hu) (pv 7) (pv 9) (fun _ _ => rfl)) pa_nil))) pa_nil))))))
      (pss_cons (ps_if (PW.pt (pw_and (pt_cmpR (op_sameK (K := K) rfl hu) (pe_callB (call_lenK (K := K) rfl) rfl T.n_len (by decide +kernel) (pa_cons (pv 5) pa_nil)) pe_int (nomark _)) (pw_and1 (pt_cmpR (op_neO S_Book_eq T.o_Book.obj T.o_Book.ne (hr.mono (by decide)) pass_CX0) (pe_mkR C_Book (hr.mono (by decide)) rfl pass_E0 (pa_cons (pv 3) (pa_cons (pe_ix (ix_seqK (K := K) rfl) (pv 5) pe_int (fun _ _ => rfl)) (pa_cons (pe_ix (ix_seqK (K := K) rfl) (pv 5) pe_int (fun _ _ => rfl)) pa_nil)))) (pv 4) (nomark _))))) (pss_one (ps_ret pe_bl)) pss_nil)
      (pss_cons (ps_if (PW.pt (pw_and (pt_cmpR (op_sameK (K := K) rfl hu) (pe_callB (call_lenK (K := K) rfl) rfl T.n_len (by decide +kernel) (pa_cons (pv 5) pa_nil)) pe_int (nomark _)) (pw_and1 (pt_cmpR (op_neO S_Book_eq T.o_Book.obj T.o_Book.ne (hr.mono (by decide)) pass_CX0) (pe_mkR C_Book (hr.mono (by decide)) rfl pass_E0 (pa_cons (pv 3) (pa_cons (pe_ix (ix_seqK (K := K) rfl) (pv 5) pe_int (fun _ _ => rfl)) pa_nil))) (pv 4) (nomark _))))) (pss_one (ps_ret pe_bl)) pss_nil)
      (pss_cons (ps_set (i := 6) sc_law.nd rfl (by first | exact Or.inl rfl | exact Or.inr rfl) (pe_mkX C_Shape (hr.mono (by decide)) rfl pass_E0 (pa_cons (pe_op op_cat (pe_callTy call_list_of rfl T.n_list (by decide +kernel) (pa_cons (pe_fldK (K := K) rfl (pv 3) rfl) pa_nil)) (pe_lstN (pa_cons pe_str pa_nil))) (pa_cons (pe_fldK (K := K) rfl (pv 3) rfl) pa_nil))))
      (pss_cons (ps_if (PW.pt (pw_or (pt_cmpR (op_eqO S_Book_eq (hr.mono (by decide)) pass_CX0) (pv 4) (pv 7) (nomark _)) (pw_or (pt_cmpR (op_eqO S_Book_eq (hr.mono (by decide)) pass_CX0) (pv 4) (pe_callTy (call_strO S_Book_str (hr.mono (by decide)) pass_CX0) rfl T.n_str (by decide +kernel) (pa_cons (pv 4) pa_nil)) (nomark _)) (pw_or1 (pt_cmpR (op_eqO S_Book_eq (hr.mono (by decide)) pass_CX0) (pe_mkR C_Book (hr.mono (by decide)) rfl pass_E0 (pa_cons (pv 3) pa_nil)) (pe_mkR C_Book (hr.mono (by decide)) rfl pass_E0 (pa_cons (pv 6) pa_nil)) (nomark _)))))) (pss_one (ps_ret pe_bl)) pss_nil)
      (pss_one (ps_if (pt_cmpR (op_neB (eqW_int (n := 0)) (hr.mono (by decide))) (pe_callOX CO_Book (hr.mono (by decide)) pass_E0 (pe_mkR C_Book (hr.mono (by decide)) rfl pass_E0 (pa_cons (pv 3) pa_nil)) (pa_cons (pe_mkX C_Table (hr.mono (by decide)) rfl pass_E0 (pa_cons (pv 3) pa_nil)) pa_nil)) pe_dnewK (nomark _)) (pss_one (ps_ret pe_bl)) pss_nil)))))))))))))
      (pss_one (ps_ret pe_bl)))), ?_⟩
    with_reducible refine setsU ?_
    refine ⟨_, rfl, a0, ns0, rfl, hS, few0, fun H0 p l nn s0 np pen0 => ?_⟩
    refine ⟨7, rfl, by decide, by decide, ?_⟩
    refine for_range (lo := 0) (n := 7) (fun n σ' H' => ∃ (a r : Int) (c0 c2 c3 c4 c5 c6 c7 c8 c9 : Option V), σ' = [c0, some (.ref p), c2, c3, c4, c5, c6, c7, c8, c9] ∧ PenAt H' p l nn a r ∧ a ≤ 2000 * n)
      ⟨0, 0, _, _, _, _, _, _, _, _, _, rfl, pen0, by omega⟩ (fun n σ' H1 hn q => ?_) (fun σ' H1 q => ?_)
    · obtain ⟨a1, r1, c0, c2, c3, c4, c5, c6, c7, c8, c9, rfl, pen1, la1⟩ := q
      clear kk hS s0 np pen0
      -- what is drawn
      with_reducible refine gnU ?_
      with_reducible refine setsU ?_
      refine ⟨_, rfl, p, l, nn, a1, r1, rfl, pen1, by omega, fun H2 a2 r2 sa ks d k2 pen2 la2 sh2 l3 d3 akn => ?_⟩
      with_reducible refine seqU ?_
      refine ⟨_, rfl, _, rfl, p, l, nn, a2, r2, 4, sa, ks, d, rfl, pen2, by omega, by decide, by decide, sh2, fun H3 a3 r3 t ns wf k3 pen3 la3 ht en3 nw => ?_⟩
      have sh3 := sh2.kp (.pen k3 pen2.pen)
      refine ⟨_, rfl, _, rfl, p, l, nn, a3, r3, 3, sa, ks, d, rfl, pen3, by omega, by decide, by decide, sh3, fun H4 a4 r4 u ms wg k4 pen4 la4 hu4 em4 nv => ?_⟩
      have sh4 := sh3.kp (.pen k4 pen3.pen)
      have en4 := en3.pen k4 pen3.pen
      have ntu : t ≠ u := fun q => by
        obtain ⟨es, e, _⟩ := en3.ex
        rw [q, hu4] at e
        cases e
      refine ⟨by show 2 ≤ sizeLine; decide, fun z nz => ?_⟩
      have sz := same_new (o := .tup [.ref t, .ref u]) nz
      refine ⟨z, _, rfl, SqT.of upd_same, rfl, _, _, rfl, _, _, rfl, rfl, ?_⟩
      have sh5 := sh4.kp (.of sz)
      have en5 := en4.same sz
      have em5 := em4.same sz
      have pen5 := pen4.same sz
      generalize upd H4 z (.tup [.ref t, .ref u]) = H5 at sh5 en5 em5 pen5 ⊢
      clear sz nz hu4 em4 en4 sh4 pen4 k4 sh3 en3 pen3 k3 ht sh2 pen2 k2 pen1
      with_reducible refine nxwU ?_
      show tSeq _ _ _ [c0, some (.ref p), some (.int (0 + (n : Int))), some (.ref sa), c4, c5, c6, some (.ref t), some (.ref u), c9] H5
      with_reducible refine setsU ?_
      refine ⟨_, rfl, _, rfl, sa, t, ks, d, ns, wf, rfl, sh5, en5, fun H6 x t1 la s6 h6 pA b6 => ?_⟩
      have sh6 := sh5.kp (.of s6)
      have en6 := en5.same s6
      have em6 := em5.same s6
      have pen6 := pen5.same s6
      clear sh5 en5 em5 pen5 s6 h6
      show tSeq _ _ _ [c0, some (.ref p), some (.int (0 + (n : Int))), some (.ref sa), some (.ref x), c5, c6, some (.ref t), some (.ref u), c9] H6
      -- what it tells and answers
      with_reducible refine seqU ?_
      with_reducible refine ifU ?_
      with_reducible refine torU ?_
      with_reducible refine tnotU ?_
      with_reducible refine bU ?_
      refine ⟨_, rfl, _, rfl, _, rfl, x, t1, sa, t, ks, d, la, ns, wf, rfl, sh6, en6, b6, pA, nw, fun H7 s7 => ⟨_, rfl, ite2 (fun c => absurd c (by decide)) fun _ => ?_⟩⟩
      with_reducible refine tnotU ?_
      with_reducible refine bU ?_
      refine ⟨_, rfl, _, rfl, _, rfl, _, rfl, p, l, nn, a4, r4, x, t1, sa, t, ks, d, la, ns, wf, rfl, pen6.same s7, by omega, sh6.kp (.of s7), en6.same s7, b6.same s7, pA, fun H8 a8 r8 k8 pen8 la8 => ⟨_, rfl, ite2 (fun c => absurd c (by decide)) fun _ => ?_⟩⟩
      have p7 := (pen6.same s7).pen
      have sh8 := (sh6.kp (.of s7)).kp (.pen k8 p7)
      have en8 := (en6.same s7).pen k8 p7
      have em8 := (em6.same s7).pen k8 p7
      have b8 := (b6.same s7).pen k8 p7
      clear p7 k8 s7 sh6 en6 em6 b6 pen6
      -- changed, and put together
      with_reducible refine nxU ?_
      with_reducible refine seqU ?_
      with_reducible refine ifU ?_
      with_reducible refine torU ?_
      with_reducible refine tnotU ?_
      with_reducible refine bU ?_
      refine ⟨_, rfl, _, rfl, _, rfl, _, rfl, p, l, nn, a8, r8, x, t1, sa, t, ks, d, la, ns, wf, rfl, pen8, by omega, sh8, en8, b8, pA, nw, fun H9 a9 r9 k9 pen9 la9 => ⟨_, rfl, ite2 (fun c => absurd c (by decide)) fun _ => ?_⟩⟩
      have sh9 := sh8.kp (.pen k9 pen8.pen)
      have en9 := en8.pen k9 pen8.pen
      have em9 := em8.pen k9 pen8.pen
      have b9 := b8.pen k9 pen8.pen
      with_reducible refine tnotU ?_
      with_reducible refine bU ?_
      refine ⟨_, rfl, _, rfl, _, rfl, sa, t, u, ks, d, ns, ms, wf, wg, rfl, sh9, en9, em9, ntu, fun H10 s10 => ⟨_, rfl, ite2 (fun c => absurd c (by decide)) fun _ => ?_⟩⟩
      have shA := sh9.kp (.of s10)
      have enA := en9.same s10
      have bA := b9.same s10
      have penA := pen9.same s10
      clear k9 pen8 sh8 en8 em8 b8 sh9 en9 em9 b9 pen9 s10
      with_reducible refine nxU ?_
      -- pairs
      with_reducible refine seqU ?_
      with_reducible refine lockSetU ?_
      obtain ⟨es, e1, e2, e3⟩ := enA.ex
      have le : es.length = ns.length := by rw [← e2, List.length_map]
      have few := enA.few
      refine lc_pairsG (fun _ => true) (fun key v Hx => ∃ m q tq, key = Sum.inr m ∧ m ∈ ns ∧ v = V.ref q ∧ HeldX K Hx "Question" "weights" q sa tq (bare ks d (wf m))) (fun _ _ _ _ sx h => by
        obtain ⟨m, q, tq, h1, h0, h2, h3⟩ := h
        exact ⟨m, q, tq, h1, h0, h2, h3.sameX sx⟩) e1 (by rw [bD_length]; omega) (by show 9 < 10; decide) (fun od R r => ⟨_, rfl, t, od, rfl, .inl ⟨bD es, upd_same, r⟩⟩) (fun od key v _ H3 Q' _ q => q) (fun od key v m _ H2 Q' sm q => ?_) (fun D qs us HB sB nD eD pr ek g => ?_)
      · obtain ⟨z, hz, ez⟩ := List.mem_map.mp m
        cases ez
        have m1 : z.1 ∈ ns := by rw [← e2]; exact List.mem_map_of_mem hz
        have nt : ∀ {b o}, H10 b = some o → (∀ kvs, o ≠ .dK kvs) → H2 b = some o := fun {b o} h n => sm _ _ ((upd_ne fun q => by rw [q, e1] at h; exact n _ (Option.some.inj h).symm).trans h)
        have sh2 := shA.kp ((Kp.lockK (od := od) e1).trans (Kp.of sm))
        refine ⟨_, rfl, _, rfl, _, rfl, t, .ref z.2, rfl, .inl ⟨_, Sum.inr z.1, .inr ⟨od, sm _ _ upd_same⟩, rfl, (enA.get e1 e2 hz).symm⟩, fun qa dq nq ndq nd => ?_⟩
        have sQ := made_mid (o := .ins (He.ga K "Question") dq []) nq ndq
        exact ⟨qa, dq, sa, z.2, ks, d, wf z.1, rfl, upd_same, (upd_ne nd).trans upd_same, sh2.kp (.of sQ), sQ _ _ (nt (e3 z hz) fun _ q => nomatch q), (enA.wts _ m1).mem, fun H4 t4 pt pdx ptt bs k4 ht4 qc => ⟨rfl, q H4 _ (made_same nq ndq k4) ⟨z.1, qa, t4, rfl, m1, rfl, qc.hx⟩⟩⟩
      rw [filt_all, keys_bD, e2] at ek
      -- the pairs as entries
      obtain ⟨fs, ef, lfs, tups, hqs⟩ : ∃ fs : BL, fs.map (·.1) = ns ∧ qs.length = fs.length ∧ (∀ (i : Nat) b z, qs[i]? = some b → fs[i]? = some z → HB b = some (.tup [.str z.1, .ref z.2])) ∧ ∀ z ∈ fs, ∃ tq, HeldX K HB "Question" "weights" z.2 sa tq (bare ks d (wf z.1)) := by
        have key : ∀ {us : List (L2.Key × V)} {ns' : List Str}, us.map (·.1) = ns'.map Sum.inr → (∀ u ∈ us, ∃ m q tq, u.1 = Sum.inr m ∧ m ∈ ns ∧ u.2 = V.ref q ∧ HeldX K HB "Question" "weights" q sa tq (bare ks d (wf m))) → ∃ fs : BL, us = bD fs ∧ fs.map (·.1) = ns' ∧ ∀ z ∈ fs, ∃ tq, HeldX K HB "Question" "weights" z.2 sa tq (bare ks d (wf z.1)) := by
          intro us
          induction us with
          | nil =>
            intro ns' e _
            cases ns' with
            | nil => exact ⟨[], rfl, rfl, fun _ h => absurd h List.not_mem_nil⟩
            | cons _ _ => cases e
          | cons u us ih =>
            intro ns' e h
            cases ns' with
            | nil => cases e
            | cons m' ns' =>
              rw [List.map_cons, List.map_cons] at e
              obtain ⟨h1, h2⟩ := List.cons.inj e
              obtain ⟨fs, f1, f2, f3⟩ := ih h2 fun u hu => h u (List.mem_cons_of_mem _ hu)
              obtain ⟨m, q, tq, g1, _, g2, g3⟩ := h u List.mem_cons_self
              have em : m = m' := Sum.inr.inj (g1.symm.trans h1)
              refine ⟨(m, q) :: fs, ?_, ?_, fun z hz => ?_⟩
              · rw [f1]
                show u :: bD fs = (Sum.inr m, V.ref q) :: bD fs
                rw [← g1, ← g2]
              · rw [List.map_cons, f2, em]
              · rcases List.mem_cons.mp hz with rfl | hz
                · exact ⟨tq, g3⟩
                · exact f3 z hz
        obtain ⟨fs, f1, f2, f3⟩ := key ek g
        refine ⟨fs, f2, ?_, fun i b z hb hz => ?_, f3⟩
        · rw [pr.length, f1, bD_length]
        · rw [f1] at pr
          exact paired_at pr hb (by unfold bD; rw [List.getElem?_map, hz]; rfl)
      have shB := shA.kp (.of sB)
      have bB := bA.same sB
      have penB := penA.same sB
      have enB := enA.same sB
      have good : ∀ z ∈ fs, z.1.length ≤ sizeLine ∧ isName z.1 = true := fun z hz => ent_good (enB.names _ (by rw [← ef]; exact List.mem_map_of_mem hz))
      have wok : ∀ z ∈ fs, WOk ks d (bare ks d (wf z.1)) := fun z hz => wok_bare shB.ok (enB.wts _ (by rw [← ef]; exact List.mem_map_of_mem hz))
      have lfn : fs.length = ns.length := by rw [← ef, List.length_map]
      have ndn := enB.nd
      clear g ek pr us e1 e3 enA shA bA penA sB nD e2 le
      with_reducible refine nxwU ?_
      show tSeq _ _ _ [c0, some (.ref p), some (.int (0 + (n : Int))), some (.ref sa), some (.ref x), some (.ref D), c6, some (.ref t), some (.ref u), c9] HB
      -- two of them, the other way round
      with_reducible refine seqU ?_
      with_reducible refine ifU ?_
      with_reducible refine tandU ?_
      with_reducible refine testU ?_
      with_reducible refine opU ?_
      refine ⟨_, rfl, .ref D, _, rfl, .inl ⟨_, SqL.of eD, rfl⟩, .inl ⟨rfl, _, rfl, ?_⟩⟩
      have iv : ∀ {i j : Nat}, decide (V.int (i : Int) = V.int (j : Int)) = decide (i = j) := fun {i j} => by
        by_cases h : i = j
        · rw [h, decide_eq_true rfl, decide_eq_true rfl]
        · rw [decide_eq_false h, decide_eq_false fun q => h (by injection q with q; omega)]
      have next : ∀ {J : Hp} {c : Bool} {A B : Prop}, c = false → B → (if c = true then A else B) := fun {J c A B} e b => by rw [e]; exact b
      suffices two : ∀ HC, Same HB HC → _ by
        rcases Decidable.em (¬ qs.length = 2) with c | c
        · rw [if_neg (by show ¬ decide (V.int (((qs.map V.ref).length : Nat) : Int) = V.int ((2 : Nat) : Int)) = true; rw [iv, List.length_map, decide_eq_false c]; decide)]
          exact ite2 (fun c => absurd c (by decide)) fun _ => two HB fun _ _ z => z
        · replace c := Decidable.not_not.mp c
          rw [if_pos (by show decide (V.int (((qs.map V.ref).length : Nat) : Int) = V.int ((2 : Nat) : Int)) = true; rw [iv, List.length_map, c]; exact decide_eq_true rfl)]
          obtain ⟨q0, q1, rfl⟩ : ∃ q0 q1, qs = [q0, q1] := by
            match qs, c with
            | [a, b], _ => exact ⟨a, b, rfl⟩
          obtain ⟨z0, z1, rfl⟩ : ∃ z0 z1, fs = [z0, z1] := by
            match fs, lfs with
            | [a, b], _ => exact ⟨a, b, rfl⟩
          with_reducible refine testU ?_
          with_reducible refine opU ?_
          refine ⟨_, rfl, _, rfl, rd_ix (v := .ref q1) eD rfl ⟨_, rfl, rd_ix (v := .ref q0) eD rfl fun x2 dx2 hx2 hdx2 ne2 => ?_⟩⟩
          have p01 : [z1, z0].Perm [z0, z1] := List.Perm.swap _ _ _
          refine sp_book (bs := [q1, q0]) (es := [z1, z0]) (wf := fun n => bare ks d (wf n)) hx2 hdx2 ne2 shB rfl (fun i b z hb hz => ?_) (fun z hz => hqs z (p01.mem_iff.mp hz)) (((p01.map (·.1)).nodup_iff).mpr (by rw [ef]; exact ndn)) (by show 2 ≤ 12; decide) (fun z hz => good z (p01.mem_iff.mp hz)) (fun z hz => wok z (p01.mem_iff.mp hz)) fun HC t2 lc sC hC pC bC => ⟨rfl, ?_⟩
          · match i with
            | 0 => cases hb; cases hz; exact tups 1 _ _ rfl rfl
            | 1 => cases hb; cases hz; exact tups 0 _ _ rfl rfl
            | i + 2 => simp at hb
          · refine ⟨_, rfl, ne_books T bC (bB.same sC) (Ne.symm (bB.far (fun _ _ z => z) hC)) (shB.kp (.of sC)) ?_⟩
            rw [bkSame_is bC (bB.same sC) ((pC.trans ((p01.map (·.1)).trans (.of_eq ef))).trans pA.symm)]
            exact ⟨_, rfl, ite2 (fun c => absurd c (by decide)) fun _ => two HC sC⟩
      intro HC sBC
      have bC := bB.same sBC
      have shC := shB.kp (.of sBC)
      have penC := penB.same sBC
      have enC := enB.same sBC
      have eDC := sBC _ _ eD
      have tupsC := fun (i : Nat) b z hb hz => sBC _ _ (tups i b z hb hz)
      have hqsC : ∀ z ∈ fs, ∃ tq, HeldX K HC "Question" "weights" z.2 sa tq (bare ks d (wf z.1)) := fun z hz => let ⟨tq, h⟩ := hqs z hz; ⟨tq, h.same sBC⟩
      clear sBC bB shB penB enB eD tups hqs
      with_reducible refine nxU ?_
      -- one of them
      with_reducible refine seqU ?_
      with_reducible refine ifU ?_
      with_reducible refine tandU ?_
      with_reducible refine testU ?_
      with_reducible refine opU ?_
      refine ⟨_, rfl, .ref D, _, rfl, .inl ⟨_, SqL.of eDC, rfl⟩, .inl ⟨rfl, _, rfl, ?_⟩⟩
      suffices one : ∀ HD, Same HC HD → _ by
        rcases Decidable.em (¬ qs.length = 1) with c | c
        · rw [if_neg (by show ¬ decide (V.int (((qs.map V.ref).length : Nat) : Int) = V.int ((1 : Nat) : Int)) = true; rw [iv, List.length_map, decide_eq_false c]; decide)]
          exact ite2 (fun c => absurd c (by decide)) fun _ => one HC fun _ _ z => z
        · replace c := Decidable.not_not.mp c
          rw [if_pos (by show decide (V.int (((qs.map V.ref).length : Nat) : Int) = V.int ((1 : Nat) : Int)) = true; rw [iv, List.length_map, c]; exact decide_eq_true rfl)]
          obtain ⟨q0, rfl⟩ : ∃ q0, qs = [q0] := by
            match qs, c with
            | [a], _ => exact ⟨a, rfl⟩
          obtain ⟨z0, rfl⟩ : ∃ z0, fs = [z0] := by
            match fs, lfs with
            | [a], _ => exact ⟨a, rfl⟩
          with_reducible refine testU ?_
          with_reducible refine opU ?_
          refine ⟨_, rfl, _, rfl, rd_ix (v := .ref q0) eDC rfl fun x2 dx2 hx2 hdx2 ne2 => ?_⟩
          refine sp_book (bs := [q0]) (es := [z0]) (wf := fun n => bare ks d (wf n)) hx2 hdx2 ne2 shC rfl (fun i b z hb hz => tupsC i b z hb hz) hqsC (by rw [ef]; exact ndn) (by show 1 ≤ 12; decide) good wok fun HD t2 lc sD hD pD bD2 => ⟨rfl, ?_⟩
          refine ⟨_, rfl, ne_books T bD2 (bC.same sD) (Ne.symm (bC.far (fun _ _ z => z) hD)) (shC.kp (.of sD)) ?_⟩
          rw [bkSame_is bD2 (bC.same sD) ((pD.trans (.of_eq ef)).trans pA.symm)]
          exact ⟨_, rfl, ite2 (fun c => absurd c (by decide)) fun _ => one HD sD⟩
      intro HD sCD
      have bD2 := bC.same sCD
      have shD := shC.kp (.of sCD)
      have penD := penC.same sCD
      have enD := enC.same sCD
      clear sCD bC shC penC enC eDC tupsC hqsC
      with_reducible refine nxU ?_
      -- a wider shape
      with_reducible refine setsU ?_
      have ok := shD.ok
      obtain ⟨f1, y1, y2, y3, ds, c24⟩ := shD.core
      refine ⟨_, rfl, sa, _, f1, _, _, rfl, c24.obj, T.k_Shape, T.a_Shape_key_names, rfl, y1, _, rfl, .inr (.inl c24.names), fun L1 hL1 => ?_⟩
      refine ⟨by show 1 ≤ sizeLine; decide, fun L2 hL2 _ => ?_⟩
      have lks := ok.k6
      have n12 : L1 ≠ L2 := fun z => by rw [← z, upd_same] at hL2; cases hL2
      refine ⟨L1, L2, _, _, rfl, rfl, (upd_ne n12).trans upd_same, upd_same, by rw [List.length_map, sizeLine_eq]; show ks.length + 1 ≤ _; omega, fun L3 hL3 => ?_⟩
      have sl1 := same_new (o := .lst (ks.map V.str)) hL1
      have sl2 := same_new (o := .lst [V.str "new"]) hL2
      have sl3 := same_new (o := .lst (ks.map V.str ++ [V.str "new"])) hL3
      have sl := (sl1.trans sl2).trans sl3
      have eL3 : (upd (upd (upd HD L1 (.lst (ks.map V.str))) L2 (.lst [V.str "new"])) L3 (.lst (ks.map V.str ++ [V.str "new"]))) L3 = some (.lst ((ks ++ [("new" : Str)]).map V.str)) := by
        rw [upd_same, List.map_append]
        rfl
      change tCons _ _ _ (upd (upd (upd HD L1 (.lst (ks.map V.str))) L2 (.lst [V.str "new"])) L3 (.lst (ks.map V.str ++ [V.str "new"]))) _
      generalize upd (upd (upd HD L1 (.lst (ks.map V.str))) L2 (.lst [V.str "new"])) L3 (.lst (ks.map V.str ++ [V.str "new"])) = HF at sl eL3 ⊢
      have c25 := c24.kp (E := fun _ => False) (.of sl) id
      refine ⟨_, rfl, sa, _, f1, _, _, rfl, c25.obj, T.k_Shape, T.a_Shape_days, rfl, fun y dy ny ndy nd => ?_⟩
      have sm3 := made_mid (o := .ins (He.ga K "Shape") dy []) ny ndy
      have lk1 : (ks ++ [("new" : Str)]).length = ks.length + 1 := by rw [List.length_append]; rfl
      obtain ⟨_, k6, names, _⟩ := areKeys_ok akn
      have few2 : (ks.length + 1) * d ≤ 4 * 3 := Nat.mul_le_mul (by omega) d3
      refine ⟨y, dy, L3, _, d, rfl, upd_same, (upd_ne nd).trans upd_same, .inr (.inl (.inl (sm3 _ _ eL3))), akn, fun z hz => by rw [sizeLine_eq]; have := (name_ok (names z hz)).2; omega, ok.d1, ok.d8, by rw [lk1]; omega, fun HG ys k26 permy _ sy => ⟨rfl, ?_⟩⟩
      have s26 := sl.trans (made_same ny ndy k26)
      have bG := bD2.same s26
      have shG := shD.kp (.of s26)
      have penG := penD.same s26
      have enG := enD.same s26
      clear c24 c25 shD penD enD bD2 s26 k26 sm3 eL3 sl sl1 sl2 sl3 hL1 hL2 hL3 n12
      show tSeq _ _ _ [c0, some (.ref p), some (.int (0 + (n : Int))), some (.ref sa), some (.ref x), some (.ref D), some (.ref y), some (.ref t), some (.ref u), c9] HG
      -- a book and what is none
      with_reducible refine seqU ?_
      with_reducible refine ifU ?_
      with_reducible refine torU ?_
      with_reducible refine testU ?_
      with_reducible refine opU ?_
      obtain ⟨dx, fx, ex⟩ := bG.ins
      obtain ⟨es9, a1', _⟩ := enG.ex
      refine ⟨_, rfl, _, rfl, x, dx, fx, _, rfl, ex, .base (.dK a1'), (T.o_Book.kitT "dict" (by decide)).2.2, x, .ref t, t1, sa, ks, d, la, _, rfl, bG, shG, .inr ⟨_, .base (.dK a1'), (T.o_Book.kitT "dict" (by decide)).1, _, rfl, ite2 (fun c => absurd c (by decide)) fun _ => ?_⟩⟩
      with_reducible refine torU ?_
      with_reducible refine testU ?_
      with_reducible refine opU ?_
      refine ⟨_, rfl, ?_⟩
      refine ⟨_, rfl, x, dx, fx, rfl, ex, x, t1, sa, ks, d, la, _, rfl, bG, shG, fun HI tx sI => ⟨tx, rfl, ?_⟩⟩
      refine ⟨x, dx, fx, _, rfl, sI _ _ ex, .base (.str tx), (T.o_Book.kitT "str" (by decide)).2.2, x, .str tx, t1, sa, ks, d, la, _, rfl, bG.same sI, shG.kp (.of sI), .inr ⟨_, .base (.str tx), (T.o_Book.kitT "str" (by decide)).1, _, rfl, ite2 (fun c => absurd c (by decide)) fun _ => ?_⟩⟩
      have shI := shG.kp (.of sI)
      have syI := sy.kp (.of sI)
      have penI := penG.same sI
      clear bG shG penG enG sy ex sI
      -- of two shapes
      with_reducible refine testU ?_
      with_reducible refine opU ?_
      refine ⟨_, rfl, fun x2 dx2 hx2 hdx2 ne2 => ?_⟩
      refine sp_book (bs := []) (es := []) (wf := fun n => bare ks d (wf n)) hx2 hdx2 ne2 shI rfl (fun i b z hb _ => by simp at hb) (fun _ h => absurd h List.not_mem_nil) List.nodup_nil (Nat.zero_le _) (fun _ h => absurd h List.not_mem_nil) (fun _ h => absurd h List.not_mem_nil) fun HJ t2 l2 sJ hJ pJ bJ => ⟨rfl, ?_⟩
      have syJ := syI.kp (.of sJ)
      refine ⟨_, rfl, fun x3 dx3 hx3 hdx3 ne3 => ?_⟩
      refine sp_book (bs := []) (es := []) (wf := fun n => bare ks d (wf n)) hx3 hdx3 ne3 syJ rfl (fun i b z hb _ => by simp at hb) (fun _ h => absurd h List.not_mem_nil) List.nodup_nil (Nat.zero_le _) (fun _ h => absurd h List.not_mem_nil) (fun _ h => absurd h List.not_mem_nil) fun HK t3 l3 sK hK pK bK => ⟨rfl, ?_⟩
      obtain ⟨dz, fz, ez⟩ := (bJ.same sK).ins
      obtain ⟨ty, nf⟩ := book_ty T bK
      have sJK := sJ.trans sK
      refine ⟨x2, dz, fz, _, rfl, ez, ty, nf, x2, .ref x3, t2, sa, ks, d, l2, _, rfl, bJ.same sK, shI.kp (.of sJK), .inl ⟨x3, t3, y, ys, d, l3, _, rfl, bK, bJ.far (fun _ _ z => z) hK, syJ.kp (.of sK), _, rfl, ?_⟩⟩
      rw [shapeEq_len d d (by rw [permy.length_eq, lk1]; omega), Bool.false_and]
      refine ite2 (fun c => absurd c (by decide)) fun _ => ?_
      have shK := shI.kp (.of sJK)
      have penK := penI.same sJK
      clear shI penI syI syJ bJ bK sJ sK sJK ez ty nf pJ pK hJ hK
      -- a book of none, asked
      with_reducible refine nxU ?_
      with_reducible refine ifU ?_
      with_reducible refine testU ?_
      with_reducible refine opU ?_
      refine ⟨_, rfl, fun x4 dx4 hx4 hdx4 ne4 => ?_⟩
      refine sp_book (bs := []) (es := []) (wf := fun n => bare ks d (wf n)) hx4 hdx4 ne4 shK rfl (fun i b z hb _ => by simp at hb) (fun _ h => absurd h List.not_mem_nil) List.nodup_nil (Nat.zero_le _) (fun _ h => absurd h List.not_mem_nil) (fun _ h => absurd h List.not_mem_nil) fun HL t4 l4 sL hL pL bL => ⟨rfl, ?_⟩
      obtain ⟨dz, gs, bc, eg, _⟩ := bL.ex
      have gnil : gs = [] := by
        have e0 : gs.map (·.1) = [] := eg.trans pL.eq_nil
        exact List.map_eq_nil_iff.mp e0
      subst gnil
      have shL := shK.kp (.of sL)
      refine ⟨_, rfl, _, rfl, fun y5 dy5 ny5 ndy5 nd5 => ?_⟩
      have sT := made_mid (o := .ins (He.ga K "Table") dy5 []) ny5 ndy5
      refine ⟨y5, dy5, sa, .non, ks, d, [], rfl, upd_same, (upd_ne nd5).trans upd_same, shL.kp (.of sT), .inl ⟨rfl, rfl⟩, fun _ h => absurd h List.not_mem_nil, fun HM t5 k5 _ tc => ⟨rfl, ?_⟩⟩
      have sM := made_same ny5 ndy5 k5
      have bcM := bc.same sM
      refine ⟨.inr ⟨_, _, bcM.obj⟩, x4, dz, sa, t4, ks, d, [], y5, bare ks d [], fun _ => [], rfl, bcM, shL.kp (.of sM), tc.held, bare_bits (fun _ h => absurd h List.not_mem_nil), List.nodup_nil, Nat.zero_le _, fun _ h => absurd h List.not_mem_nil, fun HN D5 s5 nD5 eD5 => ?_⟩
      intro Z hZ
      have sZ := same_new (o := .dK []) hZ
      have nZ : D5 ≠ Z := fun q => by rw [q, hZ] at eD5; cases eD5
      refine ⟨D5, Z, [], [], fun _ _ _ => false, rfl, rfl, nZ, sZ _ _ eD5, upd_same, (fun _ _ _ _ _ m _ => absurd m List.not_mem_nil), ?_⟩
      rw [dkSame_nil]
      refine ⟨_, rfl, ite2 (fun c => absurd c (by decide)) fun _ => ?_⟩
      with_reducible refine nxU ?_
      exact ⟨a9, r9, _, _, _, _, _, _, _, _, _, rfl, penK.same (((sL.trans sM).trans s5).trans sZ), by push_cast; omega⟩
    · obtain ⟨a1, r1, c0, c2, c3, c4, c5, c6, c7, c8, c9, rfl, pen1, la1⟩ := q
      exact kk H1
end
end L2.K20
set_option Elab.async false
set_option linter.all false
set_option maxRecDepth 100000
set_option maxHeartbeats 4000000
/-! What the end of a law's proof asks of its defs. -/
namespace L2.RV
open PySem PySem.Spec PyProof.Rows
section
variable {K : PySem.W.Frag} {x qual : Str} {params : Arguments} {body : List Stmt} {scope : Scope} {dvs : List V} {kws : List (Str × V)} {f : Addr} {fd : FuncData} {ps ks : List Str}
theorem fi_of (F : FunD K x qual params body scope dvs kws f fd) : PySem.W.fnIn K f = true := by
  obtain ⟨oc, od, dV, kV, doc, pm, an, cdv, ct, osl, rfl, lk, _⟩ := F.ex
  unfold PySem.W.fnIn
  rw [lk]
theorem vals_rev {a : List V} {b : List Value} (h : Vals a b) : Vals a.reverse b.reverse := by
  induction h with
  | nil => exact .nil
  | cons r _ ih =>
    rw [List.reverse_cons, List.reverse_cons]
    exact ih.append (.cons r .nil)
/-- a call by keywords where there are no defaults -/
theorem kbn_of (F : FunD K x qual params body scope [] [] f fd) (n : Nat) (ks : List Str) (g : {α : Type} → List α → List α → List α) (hrel : ∀ {vs zs : List V} {us ws : List Value}, Vals vs us → Vals zs ws → Vals (g vs zs) (g us ws))
    (h : ∀ (kV doc pm : Value) (an : Option Addr) (cdv ct : Value) (us ws : List Value), us.length = n → ws.length = ks.length → bindArgs (PySem.W.fnOf x qual params body scope .none kV doc pm an cdv ct) ⟨us, ks.zip ws⟩ = pure (ps.zip (g us ws))) : KBn K fd ps n ks (fun us ws => g us ws) (fun us ws => g us ws) :=
  ⟨fun s us ws _ l1 l2 => bind_ofN F (fun kV doc pm an cdv ct => h kV doc pm an cdv ct us ws l1 l2) s, hrel⟩
end
end L2.RV
set_option Elab.async false
set_option linter.all false
set_option maxRecDepth 100000
set_option maxHeartbeats 4000000
/-! All defs together; the law holds. -/
namespace L2.K20
open PySem PySem.Spec PyProof.Rows L2.RV
section
variable {P : Program} {w : World} {K : PySem.W.Frag} {mg : Str → Option Value} {h base : Heap} {f : Addr}
theorem def_law_pen (X : K.In h) (G : h.Ns mainGlobals mg) (c : SaysRA chk fn tabs [] w h K) : Def P w K mg base "_law_pen" 1 ["_law_script"] (spPen K) := by
  obtain ⟨fd, F⟩ := c.def_ 11 (d := d_law_pen) rfl
  exact ⟨_, fd, glo_fn X G c (List.mem_of_getElem? (i := 11) rfl), F.kp, F.bindsN (fun _ _ _ _ _ _ us hl => match us, hl with | [_], _ => rfl), ok_law_pen (top_of X G c) F⟩
theorem def_law_draw (X : K.In h) (G : h.Ns mainGlobals mg) (c : SaysRA chk fn tabs [] w h K) : Def P w K mg base "_law_draw" 1 ["_law_pen_here", "_law_many"] spDraw := by
  obtain ⟨fd, F⟩ := c.def_ 12 (d := d_law_draw) rfl
  exact ⟨_, fd, glo_fn X G c (List.mem_of_getElem? (i := 12) rfl), F.kp, F.bindsN (fun _ _ _ _ _ _ us hl => match us, hl with | [_, _], _ => rfl), ok_law_draw (top_of X G c) F⟩
theorem def_law_pick (X : K.In h) (G : h.Ns mainGlobals mg) (c : SaysRA chk fn tabs [] w h K) : Def P w K mg base "_law_pick" 2 ["_law_pen_here", "_law_some_here"] spPick := by
  obtain ⟨fd, F⟩ := c.def_ 13 (d := d_law_pick) rfl
  exact ⟨_, fd, glo_fn X G c (List.mem_of_getElem? (i := 13) rfl), F.kp, F.bindsN (fun _ _ _ _ _ _ us hl => match us, hl with | [_, _], _ => rfl), ok_law_pick (top_of X G c) (def_law_draw X G c) F⟩
theorem def_is_name (X : K.In h) (G : h.Ns mainGlobals mg) (c : SaysRA chk fn tabs [] w h K) : Def P w K mg base "is_name" 1 ["value"] spName := by
  obtain ⟨fd, F⟩ := c.def_ 2 (d := d_is_name) rfl
  exact ⟨_, fd, glo_fn X G c (List.mem_of_getElem? (i := 2) rfl), F.kp, F.bindsN (fun _ _ _ _ _ _ us hl => match us, hl with | [_], _ => rfl), ok_is_name (top_of X G c) F⟩
theorem def_are_keys (X : K.In h) (G : h.Ns mainGlobals mg) (c : SaysRA chk fn tabs [] w h K) : Def P w K mg base "are_keys" 2 ["value"] (spAreKeys K) := by
  obtain ⟨fd, F⟩ := c.def_ 4 (d := d_are_keys) rfl
  exact ⟨_, fd, glo_fn X G c (List.mem_of_getElem? (i := 4) rfl), F.kp, F.bindsN (fun _ _ _ _ _ _ us hl => match us, hl with | [_], _ => rfl), ok_are_keys (top_of X G c) (def_is_name X G c) F⟩
theorem def_is_whole (X : K.In h) (G : h.Ns mainGlobals mg) (c : SaysRA chk fn tabs [] w h K) : Def P w K mg base "is_whole" 1 ["value"] (spWhole K) := by
  obtain ⟨fd, F⟩ := c.def_ 0 (d := d_is_whole) rfl
  exact ⟨_, fd, glo_fn X G c (List.mem_of_getElem? (i := 0) rfl), F.kp, F.bindsN (fun _ _ _ _ _ _ us hl => match us, hl with | [_], _ => rfl), ok_is_whole (top_of X G c) F⟩
theorem def_is_whole_from (X : K.In h) (G : h.Ns mainGlobals mg) (c : SaysRA chk fn tabs [] w h K) : Def P w K mg base "is_whole_from" 2 ["value", "low", "high"] (spFrom K) := by
  obtain ⟨fd, F⟩ := c.def_ 1 (d := d_is_whole_from) rfl
  exact ⟨_, fd, glo_fn X G c (List.mem_of_getElem? (i := 1) rfl), F.kp, F.bindsN (fun _ _ _ _ _ _ us hl => match us, hl with | [_, _, _], _ => rfl), ok_is_whole_from (top_of X G c) (def_is_whole X G c) F⟩
theorem rz_BadShape (X : K.In h) (G : h.Ns mainGlobals mg) (c : SaysRA chk fn tabs [] w h K) : RzX P w K mg base "BadShape" (ca K 4) ["part"] := by
  obtain ⟨fd, F⟩ := c.def_ 31 (d := d_BadShape) rfl
  obtain ⟨iC, tI, no⟩ := iniB_ok (List.all_eq_true.mp (ba2 (ba2 c.look).2).1 _ (List.mem_of_getElem? (i := 0) (a := (("BadShape" : Str), ([("part" : Str)] : List Str))) rfl))
  exact ⟨_, fd, (top_of X G c).c_BadShape, (top_of X G c).ox 4 (by decide), no, iC, tI, ok_init1N (p1 := _) (p2 := _) (q1 := _) (q2 := _) (q3 := _) (q4 := _) F ⟨rfl, rfl, rfl, by decide +kernel, rfl, by decide +kernel, by decide +kernel⟩ (by decide +kernel) (by decide +kernel) (by decide +kernel) (by decide +kernel) (fun _ => rfl), F.bindsN (fun _ _ _ _ _ _ us hl => match us, hl with | [_, _], _ => rfl)⟩
theorem rz_TooMany (X : K.In h) (G : h.Ns mainGlobals mg) (c : SaysRA chk fn tabs [] w h K) : RzX P w K mg base "TooMany" (ca K 14) ["what", "most"] := by
  obtain ⟨fd, F⟩ := c.def_ 41 (d := d_TooMany) rfl
  obtain ⟨iC, tI, no⟩ := iniB_ok (List.all_eq_true.mp (ba2 (ba2 c.look).2).1 _ (List.mem_of_getElem? (i := 10) (a := (("TooMany" : Str), ([("what" : Str), ("most" : Str)] : List Str))) rfl))
  exact ⟨_, fd, (top_of X G c).c_TooMany, (top_of X G c).ox 14 (by decide), no, iC, tI, ok_init2N F ⟨rfl, rfl, rfl, by decide +kernel, rfl, by decide +kernel, by decide +kernel⟩ (by decide +kernel) (by decide +kernel) (by decide +kernel) (by decide +kernel) (by decide +kernel) (by decide +kernel) (by decide +kernel) (by decide +kernel) (fun _ => rfl) (fun _ => rfl), F.bindsN (fun _ _ _ _ _ _ us hl => match us, hl with | [_, _, _], _ => rfl)⟩
theorem mx_Shape (X : K.In h) (G : h.Ns mainGlobals mg) (c : SaysRA chk fn tabs [] w h K) : MakeX (L2.CX P w) P w K mg base "Shape" (He.ga K "Shape") 3 ["self", "keys", "days"] [] (spShapeInit K) := by
  obtain ⟨fd, F⟩ := c.def_ 44 (d := d_Shape_init) rfl
  exact ⟨_, fd, _, (top_of X G c).m_Shape, (top_of X G c).g_Shape, F.bindsN (fun _ _ _ _ _ _ us hl => match us, hl with | [_, _, _], _ => rfl), .nil, ok_shape_init (top_of X G c) (def_are_keys X G c) (def_is_whole_from X G c) (rz_BadShape X G c) (rz_TooMany X G c) F⟩
theorem def_law_shape (X : K.In h) (G : h.Ns mainGlobals mg) (c : SaysRA chk fn tabs [] w h K) : Def P w K mg base "_law_shape" 5 ["_law_pen_here"] (spLShape K) := by
  obtain ⟨fd, F⟩ := c.def_ 14 (d := d_law_shape) rfl
  exact ⟨_, fd, glo_fn X G c (List.mem_of_getElem? (i := 14) rfl), F.kp, F.bindsN (fun _ _ _ _ _ _ us hl => match us, hl with | [_], _ => rfl), ok_law_shape (top_of X G c) (def_law_draw X G c) (def_law_pick X G c) (mx_Shape X G c) F⟩
theorem def_law_weights (X : K.In h) (G : h.Ns mainGlobals mg) (c : SaysRA chk fn tabs [] w h K) : Def P w K mg base "_law_weights" 3 ["_law_pen_here", "_law_shape_here"] (spLWeights K) := by
  obtain ⟨fd, F⟩ := c.def_ 15 (d := d_law_weights) rfl
  exact ⟨_, fd, glo_fn X G c (List.mem_of_getElem? (i := 15) rfl), F.kp, F.bindsN (fun _ _ _ _ _ _ us hl => match us, hl with | [_, _], _ => rfl), ok_law_weights (top_of X G c) (def_law_draw X G c) (def_law_pick X G c) F⟩
theorem def_law_entries (X : K.In h) (G : h.Ns mainGlobals mg) (c : SaysRA chk fn tabs [] w h K) : Def P w K mg base "_law_entries" 4 ["_law_pen_here", "_law_shape_here", "_law_most"] (spEntries K) := by
  obtain ⟨fd, F⟩ := c.def_ 18 (d := d_law_entries) rfl
  exact ⟨_, fd, glo_fn X G c (List.mem_of_getElem? (i := 18) rfl), F.kp, F.bindsN (fun _ _ _ _ _ _ us hl => match us, hl with | [_, _, _], _ => rfl), ok_law_entries (top_of X G c) (def_law_draw X G c) (def_law_pick X G c) (def_law_weights X G c) F⟩
theorem rz_BadBook (X : K.In h) (G : h.Ns mainGlobals mg) (c : SaysRA chk fn tabs [] w h K) : RzX P w K mg base "BadBook" (ca K 8) ["part"] := by
  obtain ⟨fd, F⟩ := c.def_ 35 (d := d_BadBook) rfl
  obtain ⟨iC, tI, no⟩ := iniB_ok (List.all_eq_true.mp (ba2 (ba2 c.look).2).1 _ (List.mem_of_getElem? (i := 4) (a := (("BadBook" : Str), ([("part" : Str)] : List Str))) rfl))
  exact ⟨_, fd, (top_of X G c).c_BadBook, (top_of X G c).ox 8 (by decide), no, iC, tI, ok_init1N (p1 := _) (p2 := _) (q1 := _) (q2 := _) (q3 := _) (q4 := _) F ⟨rfl, rfl, rfl, by decide +kernel, rfl, by decide +kernel, by decide +kernel⟩ (by decide +kernel) (by decide +kernel) (by decide +kernel) (by decide +kernel) (fun _ => rfl), F.bindsN (fun _ _ _ _ _ _ us hl => match us, hl with | [_, _], _ => rfl)⟩
theorem dex_check_shape_books (X : K.In h) (G : h.Ns mainGlobals mg) (c : SaysRA chk fn tabs [] w h K) : DefX (L2.CX P w) P w K mg base "check_shape_books" 3 ["shape"] (spIns K "Shape") := by
  obtain ⟨fd, F⟩ := c.def_ 29 (d := d_check_shape_books) rfl
  exact ⟨_, fd, glo_fn X G c (List.mem_of_getElem? (i := 29) rfl), F.kp, F.bindsN (fun _ _ _ _ _ _ us hl => match us, hl with | [_], _ => rfl), ok_check_shape_books (top_of X G c) (rz_BadBook X G c) F, fun p e s u => by cases e; exact bind_ofN F (fun _ _ _ _ _ _ => rfl) s⟩
theorem m_Shape_eq (X : K.In h) (G : h.Ns mainGlobals mg) (c : SaysRA chk fn tabs [] w h K) : MethS CX0 P w K mg base (He.ga K "Shape") "__eq__" 2 ["self", "other"] (spShapeEq K) := by
  obtain ⟨fd, F⟩ := c.def_ 47 (d := d_Shape_eq) rfl
  exact ⟨_, fd, (top_of X G c).m_Shape___eq__, fi_of F, F.bindsN (fun _ _ _ _ _ _ us hl => match us, hl with | [_, _], _ => rfl), ok_shape_eq (top_of X G c) F⟩
theorem def_is_question_of (X : K.In h) (G : h.Ns mainGlobals mg) (c : SaysRA chk fn tabs [] w h K) : Def P w K mg base "is_question_of" 3 ["value", "shape"] (spIsOf K "Question") := by
  obtain ⟨fd, F⟩ := c.def_ 9 (d := d_is_question_of) rfl
  exact ⟨_, fd, glo_fn X G c (List.mem_of_getElem? (i := 9) rfl), F.kp, F.bindsN (fun _ _ _ _ _ _ us hl => match us, hl with | [_, _], _ => rfl), ok_is_question_of (top_of X G c) (m_Shape_eq X G c) F⟩
theorem rz_BadName (X : K.In h) (G : h.Ns mainGlobals mg) (c : SaysRA chk fn tabs [] w h K) : RzX P w K mg base "BadName" (ca K 12) ["value"] := by
  obtain ⟨fd, F⟩ := c.def_ 39 (d := d_BadName) rfl
  obtain ⟨iC, tI, no⟩ := iniB_ok (List.all_eq_true.mp (ba2 (ba2 c.look).2).1 _ (List.mem_of_getElem? (i := 8) (a := (("BadName" : Str), ([("value" : Str)] : List Str))) rfl))
  exact ⟨_, fd, (top_of X G c).c_BadName, (top_of X G c).ox 12 (by decide), no, iC, tI, ok_init1N (p1 := _) (p2 := _) (q1 := _) (q2 := _) (q3 := _) (q4 := _) F ⟨rfl, rfl, rfl, by decide +kernel, rfl, by decide +kernel, by decide +kernel⟩ (by decide +kernel) (by decide +kernel) (by decide +kernel) (by decide +kernel) (fun _ => rfl), F.bindsN (fun _ _ _ _ _ _ us hl => match us, hl with | [_, _], _ => rfl)⟩
theorem rz_Taken (X : K.In h) (G : h.Ns mainGlobals mg) (c : SaysRA chk fn tabs [] w h K) : RzX P w K mg base "Taken" (ca K 15) ["name"] := by
  obtain ⟨fd, F⟩ := c.def_ 42 (d := d_Taken) rfl
  obtain ⟨iC, tI, no⟩ := iniB_ok (List.all_eq_true.mp (ba2 (ba2 c.look).2).1 _ (List.mem_of_getElem? (i := 11) (a := (("Taken" : Str), ([("name" : Str)] : List Str))) rfl))
  exact ⟨_, fd, (top_of X G c).c_Taken, (top_of X G c).ox 15 (by decide), no, iC, tI, ok_init1N (p1 := _) (p2 := _) (q1 := _) (q2 := _) (q3 := _) (q4 := _) F ⟨rfl, rfl, rfl, by decide +kernel, rfl, by decide +kernel, by decide +kernel⟩ (by decide +kernel) (by decide +kernel) (by decide +kernel) (by decide +kernel) (fun _ => rfl), F.bindsN (fun _ _ _ _ _ _ us hl => match us, hl with | [_, _], _ => rfl)⟩
theorem dex_check_pair (X : K.In h) (G : h.Ns mainGlobals mg) (c : SaysRA chk fn tabs [] w h K) : DefX (L2.CX P w) P w K mg base "check_pair" 4 ["shape", "pair", "ahead"] (spPair K) := by
  obtain ⟨fd, F⟩ := c.def_ 10 (d := d_check_pair) rfl
  exact ⟨_, fd, glo_fn X G c (List.mem_of_getElem? (i := 10) rfl), F.kp, F.bindsN (fun _ _ _ _ _ _ us hl => match us, hl with | [_, _, _], _ => rfl), ok_check_pair (top_of X G c) (def_is_name X G c) (def_is_question_of X G c) (rz_BadBook X G c) (rz_BadName X G c) (rz_Taken X G c) F, fun p e => by cases e⟩
theorem mr_Book (X : K.In h) (G : h.Ns mainGlobals mg) (c : SaysRA chk fn tabs [] w h K) : MakeR (L2.CX P w) P w K mg base "Book" (He.ga K "Book") 6 (spBook K) := by
  obtain ⟨fd, F⟩ := c.def_ 56 (d := d_Book_init) rfl
  exact ⟨_, (top_of X G c).m_Book, (top_of X G c).g_Book, ok_book_init (top_of X G c) (dex_check_shape_books X G c) (dex_check_pair X G c) F⟩
theorem rz_BadQuestion (X : K.In h) (G : h.Ns mainGlobals mg) (c : SaysRA chk fn tabs [] w h K) : RzX P w K mg base "BadQuestion" (ca K 7) ["part"] := by
  obtain ⟨fd, F⟩ := c.def_ 34 (d := d_BadQuestion) rfl
  obtain ⟨iC, tI, no⟩ := iniB_ok (List.all_eq_true.mp (ba2 (ba2 c.look).2).1 _ (List.mem_of_getElem? (i := 3) (a := (("BadQuestion" : Str), ([("part" : Str)] : List Str))) rfl))
  exact ⟨_, fd, (top_of X G c).c_BadQuestion, (top_of X G c).ox 7 (by decide), no, iC, tI, ok_init1N (p1 := _) (p2 := _) (q1 := _) (q2 := _) (q3 := _) (q4 := _) F ⟨rfl, rfl, rfl, by decide +kernel, rfl, by decide +kernel, by decide +kernel⟩ (by decide +kernel) (by decide +kernel) (by decide +kernel) (by decide +kernel) (fun _ => rfl), F.bindsN (fun _ _ _ _ _ _ us hl => match us, hl with | [_, _], _ => rfl)⟩
theorem dex_check_shape_questions (X : K.In h) (G : h.Ns mainGlobals mg) (c : SaysRA chk fn tabs [] w h K) : DefX (L2.CX P w) P w K mg base "check_shape_questions" 3 ["shape"] (spIns K "Shape") := by
  obtain ⟨fd, F⟩ := c.def_ 28 (d := d_check_shape_questions) rfl
  exact ⟨_, fd, glo_fn X G c (List.mem_of_getElem? (i := 28) rfl), F.kp, F.bindsN (fun _ _ _ _ _ _ us hl => match us, hl with | [_], _ => rfl), ok_check_shape_questions (top_of X G c) (rz_BadQuestion X G c) F, fun p e s u => by cases e; exact bind_ofN F (fun _ _ _ _ _ _ => rfl) s⟩
theorem m_Shape_contains (X : K.In h) (G : h.Ns mainGlobals mg) (c : SaysRA chk fn tabs [] w h K) : MethS CX0 P w K mg base (He.ga K "Shape") "__contains__" 3 ["self", "x"] (spShapeIn K) := by
  obtain ⟨fd, F⟩ := c.def_ 45 (d := d_Shape_contains) rfl
  exact ⟨_, fd, (top_of X G c).m_Shape___contains__, fi_of F, F.bindsN (fun _ _ _ _ _ _ us hl => match us, hl with | [_, _], _ => rfl), ok_shape_in (top_of X G c) (def_is_whole X G c) F⟩
theorem rz_BadPlace (X : K.In h) (G : h.Ns mainGlobals mg) (c : SaysRA chk fn tabs [] w h K) : RzX P w K mg base "BadPlace" (ca K 9) ["value"] := by
  obtain ⟨fd, F⟩ := c.def_ 36 (d := d_BadPlace) rfl
  obtain ⟨iC, tI, no⟩ := iniB_ok (List.all_eq_true.mp (ba2 (ba2 c.look).2).1 _ (List.mem_of_getElem? (i := 5) (a := (("BadPlace" : Str), ([("value" : Str)] : List Str))) rfl))
  exact ⟨_, fd, (top_of X G c).c_BadPlace, (top_of X G c).ox 9 (by decide), no, iC, tI, ok_init1N (p1 := _) (p2 := _) (q1 := _) (q2 := _) (q3 := _) (q4 := _) F ⟨rfl, rfl, rfl, by decide +kernel, rfl, by decide +kernel, by decide +kernel⟩ (by decide +kernel) (by decide +kernel) (by decide +kernel) (by decide +kernel) (fun _ => rfl), F.bindsN (fun _ _ _ _ _ _ us hl => match us, hl with | [_, _], _ => rfl)⟩
theorem rz_BadAmount (X : K.In h) (G : h.Ns mainGlobals mg) (c : SaysRA chk fn tabs [] w h K) : RzX P w K mg base "BadAmount" (ca K 10) ["value"] := by
  obtain ⟨fd, F⟩ := c.def_ 37 (d := d_BadAmount) rfl
  obtain ⟨iC, tI, no⟩ := iniB_ok (List.all_eq_true.mp (ba2 (ba2 c.look).2).1 _ (List.mem_of_getElem? (i := 6) (a := (("BadAmount" : Str), ([("value" : Str)] : List Str))) rfl))
  exact ⟨_, fd, (top_of X G c).c_BadAmount, (top_of X G c).ox 10 (by decide), no, iC, tI, ok_init1N (p1 := _) (p2 := _) (q1 := _) (q2 := _) (q3 := _) (q4 := _) F ⟨rfl, rfl, rfl, by decide +kernel, rfl, by decide +kernel, by decide +kernel⟩ (by decide +kernel) (by decide +kernel) (by decide +kernel) (by decide +kernel) (fun _ => rfl), F.bindsN (fun _ _ _ _ _ _ us hl => match us, hl with | [_, _], _ => rfl)⟩
theorem dex_check_amounts (X : K.In h) (G : h.Ns mainGlobals mg) (c : SaysRA chk fn tabs [] w h K) : DefX (L2.CX P w) P w K mg base "check_amounts" 4 ["shape", "amounts"] (spAmounts K) := by
  obtain ⟨fd, F⟩ := c.def_ 7 (d := d_check_amounts) rfl
  exact ⟨_, fd, glo_fn X G c (List.mem_of_getElem? (i := 7) rfl), F.kp, F.bindsN (fun _ _ _ _ _ _ us hl => match us, hl with | [_, _], _ => rfl), ok_check_amounts (top_of X G c) (m_Shape_contains X G c) (def_is_whole X G c) (rz_BadPlace X G c) (rz_BadAmount X G c) F, fun p e => by cases e⟩
theorem rz_BadPart (X : K.In h) (G : h.Ns mainGlobals mg) (c : SaysRA chk fn tabs [] w h K) : RzX P w K mg base "BadPart" (ca K 6) ["part"] := by
  obtain ⟨fd, F⟩ := c.def_ 33 (d := d_BadPart) rfl
  obtain ⟨iC, tI, no⟩ := iniB_ok (List.all_eq_true.mp (ba2 (ba2 c.look).2).1 _ (List.mem_of_getElem? (i := 2) (a := (("BadPart" : Str), ([("part" : Str)] : List Str))) rfl))
  exact ⟨_, fd, (top_of X G c).c_BadPart, (top_of X G c).ox 6 (by decide), no, iC, tI, ok_init1N (p1 := _) (p2 := _) (q1 := _) (q2 := _) (q3 := _) (q4 := _) F ⟨rfl, rfl, rfl, by decide +kernel, rfl, by decide +kernel, by decide +kernel⟩ (by decide +kernel) (by decide +kernel) (by decide +kernel) (by decide +kernel) (fun _ => rfl), F.bindsN (fun _ _ _ _ _ _ us hl => match us, hl with | [_, _], _ => rfl)⟩
theorem dex_check_shape_parts (X : K.In h) (G : h.Ns mainGlobals mg) (c : SaysRA chk fn tabs [] w h K) : DefX (L2.CX P w) P w K mg base "check_shape_parts" 3 ["shape"] (spIns K "Shape") := by
  obtain ⟨fd, F⟩ := c.def_ 26 (d := d_check_shape_parts) rfl
  exact ⟨_, fd, glo_fn X G c (List.mem_of_getElem? (i := 26) rfl), F.kp, F.bindsN (fun _ _ _ _ _ _ us hl => match us, hl with | [_], _ => rfl), ok_check_shape_parts (top_of X G c) (rz_BadPart X G c) F, fun p e s u => by cases e; exact bind_ofN F (fun _ _ _ _ _ _ => rfl) s⟩
theorem dex_check_places (X : K.In h) (G : h.Ns mainGlobals mg) (c : SaysRA chk fn tabs [] w h K) : DefX (L2.CX P w) P w K mg base "check_places" 4 ["shape", "places"] (spPlaces K) := by
  obtain ⟨fd, F⟩ := c.def_ 5 (d := d_check_places) rfl
  exact ⟨_, fd, glo_fn X G c (List.mem_of_getElem? (i := 5) rfl), F.kp, F.bindsN (fun _ _ _ _ _ _ us hl => match us, hl with | [_, _], _ => rfl), ok_check_places (top_of X G c) (m_Shape_contains X G c) (rz_BadPlace X G c) F, fun p e => by cases e⟩
theorem mr_Part (X : K.In h) (G : h.Ns mainGlobals mg) (c : SaysRA chk fn tabs [] w h K) : MakeR CX0 P w K mg base "Part" (He.ga K "Part") 6 (spPart K) := by
  obtain ⟨fd, F⟩ := c.def_ 48 (d := d_Part_init) rfl
  exact ⟨_, (top_of X G c).m_Part, (top_of X G c).g_Part, ok_part_init (top_of X G c) (dex_check_shape_parts X G c) (dex_check_places X G c) F⟩
theorem mx_Question (X : K.In h) (G : h.Ns mainGlobals mg) (c : SaysRA chk fn tabs [] w h K) : MakeX (L2.CX P w) P w K mg base "Question" (He.ga K "Question") 8 ["self", "shape", "weights"] [] (spQuestion K) := by
  obtain ⟨fd, F⟩ := c.def_ 51 (d := d_Question_init) rfl
  exact ⟨_, fd, _, (top_of X G c).m_Question, (top_of X G c).g_Question, F.bindsN (fun _ _ _ _ _ _ us hl => match us, hl with | [_, _, _], _ => rfl), .nil, ok_question_init (top_of X G c) (dex_check_shape_questions X G c) (dex_check_amounts X G c) (mr_Part X G c) (rz_BadQuestion X G c) F⟩
theorem m_Book_contains (X : K.In h) (G : h.Ns mainGlobals mg) (c : SaysRA chk fn tabs [] w h K) : MethS CX0 P w K mg base (He.ga K "Book") "__contains__" 1 ["self", "x"] (spBookHas K) := by
  obtain ⟨fd, F⟩ := c.def_ 62 (d := d_Book_contains) rfl
  exact ⟨_, fd, (top_of X G c).m_Book___contains__, fi_of F, F.bindsN (fun _ _ _ _ _ _ us hl => match us, hl with | [_, _], _ => rfl), ok_Book_contains (top_of X G c) F⟩
theorem rz_NoName (X : K.In h) (G : h.Ns mainGlobals mg) (c : SaysRA chk fn tabs [] w h K) : RzX P w K mg base "NoName" (ca K 16) ["name"] := by
  obtain ⟨fd, F⟩ := c.def_ 43 (d := d_NoName) rfl
  obtain ⟨iC, tI, no⟩ := iniB_ok (List.all_eq_true.mp (ba2 (ba2 c.look).2).1 _ (List.mem_of_getElem? (i := 12) (a := (("NoName" : Str), ([("name" : Str)] : List Str))) rfl))
  exact ⟨_, fd, (top_of X G c).c_NoName, (top_of X G c).ox 16 (by decide), no, iC, tI, ok_init1N (p1 := _) (p2 := _) (q1 := _) (q2 := _) (q3 := _) (q4 := _) F ⟨rfl, rfl, rfl, by decide +kernel, rfl, by decide +kernel, by decide +kernel⟩ (by decide +kernel) (by decide +kernel) (by decide +kernel) (by decide +kernel) (fun _ => rfl), F.bindsN (fun _ _ _ _ _ _ us hl => match us, hl with | [_, _], _ => rfl)⟩
theorem m_Book_getitem (X : K.In h) (G : h.Ns mainGlobals mg) (c : SaysRA chk fn tabs [] w h K) : MethS (L2.CX P w) P w K mg base (He.ga K "Book") "__getitem__" 4 ["self", "at"] (spBookAt K) := by
  obtain ⟨fd, F⟩ := c.def_ 63 (d := d_Book_getitem) rfl
  exact ⟨_, fd, (top_of X G c).m_Book___getitem__, fi_of F, F.bindsN (fun _ _ _ _ _ _ us hl => match us, hl with | [_, _], _ => rfl), ok_Book_at (top_of X G c) (m_Book_contains X G c) (rz_NoName X G c) F⟩
theorem mx_Book_with_question (X : K.In h) (G : h.Ns mainGlobals mg) (c : SaysRA chk fn tabs [] w h K) : MethX (L2.CX P w) P w K mg base (He.ga K "Book") "with_question" 8 ["self", "name", "question"] (spWith K) := by
  obtain ⟨fd, F⟩ := c.def_ 57 (d := d_Book_with_question) rfl
  exact ⟨_, fd, (top_of X G c).m_Book_with_question, F.bindsN (fun _ _ _ _ _ _ us hl => match us, hl with | [_, _, _], _ => rfl), ok_Book_with_question (top_of X G c) (def_is_name X G c) (def_is_question_of X G c) (m_Book_getitem X G c) (rz_BadBook X G c) (rz_BadName X G c) (mr_Book X G c) F⟩
theorem def_law_book (X : K.In h) (G : h.Ns mainGlobals mg) (c : SaysRA chk fn tabs [] w h K) : Def P w K mg base "_law_book" 11 ["_law_shape_here", "_law_entries_here"] (spLBook K) := by
  obtain ⟨fd, F⟩ := c.def_ 19 (d := d_law_book) rfl
  exact ⟨_, fd, glo_fn X G c (List.mem_of_getElem? (i := 19) rfl), F.kp, F.bindsN (fun _ _ _ _ _ _ us hl => match us, hl with | [_, _], _ => rfl), ok_law_book (top_of X G c) (mr_Book X G c) (mx_Question X G c) (mx_Book_with_question X G c) F⟩
theorem def_law_names (X : K.In h) (G : h.Ns mainGlobals mg) (c : SaysRA chk fn tabs [] w h K) : Def P w K mg base "_law_names" 1 ["_law_entries_here"] spNames := by
  obtain ⟨fd, F⟩ := c.def_ 20 (d := d_law_names) rfl
  exact ⟨_, fd, glo_fn X G c (List.mem_of_getElem? (i := 20) rfl), F.kp, F.bindsN (fun _ _ _ _ _ _ us hl => match us, hl with | [_], _ => rfl), ok_law_names (top_of X G c) F⟩
theorem it_Book (X : K.In h) (G : h.Ns mainGlobals mg) (c : SaysRA chk fn tabs [] w h K) : IterS P w K mg base (He.ga K "Book") 1 (spBookIter K) := by
  obtain ⟨fd, F⟩ := c.def_ 61 (d := d_Book_iter) rfl
  exact ⟨_, (top_of X G c).m_Book___iter__, ok_Book_iter (top_of X G c) F (F.bindsN (fun _ _ _ _ _ _ us hl => match us, hl with | [_], _ => rfl))⟩
theorem m_Book_len (X : K.In h) (G : h.Ns mainGlobals mg) (c : SaysRA chk fn tabs [] w h K) : MethS CX0 P w K mg base (He.ga K "Book") "__len__" 1 ["self"] (spBookLen K) := by
  obtain ⟨fd, F⟩ := c.def_ 60 (d := d_Book_len) rfl
  exact ⟨_, fd, (top_of X G c).m_Book___len__, fi_of F, F.bindsN (fun _ _ _ _ _ _ us hl => match us, hl with | [_], _ => rfl), ok_Book_len (top_of X G c) F⟩
theorem m_Question_eq (X : K.In h) (G : h.Ns mainGlobals mg) (c : SaysRA chk fn tabs [] w h K) : MethS CX0 P w K mg base (He.ga K "Question") "__eq__" 4 ["self", "other"] (spQEq K) := by
  obtain ⟨fd, F⟩ := c.def_ 54 (d := d_Question_eq) rfl
  exact ⟨_, fd, (top_of X G c).m_Question___eq__, fi_of F, F.bindsN (fun _ _ _ _ _ _ us hl => match us, hl with | [_, _], _ => rfl), ok_question_eq (top_of X G c) (m_Shape_eq X G c) F⟩
theorem def_law_told_right (X : K.In h) (G : h.Ns mainGlobals mg) (c : SaysRA chk fn tabs [] w h K) : Def P w K mg base "_law_told_right" 11 ["_law_book_here", "_law_shape_here", "_law_entries_here"] (spTold K) := by
  obtain ⟨fd, F⟩ := c.def_ 21 (d := d_law_told_right) rfl
  exact ⟨_, fd, glo_fn X G c (List.mem_of_getElem? (i := 21) rfl), F.kp, F.bindsN (fun _ _ _ _ _ _ us hl => match us, hl with | [_, _, _], _ => rfl), ok_law_told_right (top_of X G c) (def_law_names X G c) (it_Book X G c) (m_Book_len X G c) (m_Shape_eq X G c) (m_Question_eq X G c) (m_Book_contains X G c) (m_Book_getitem X G c) (mx_Question X G c) F⟩
theorem def_law_sum (X : K.In h) (G : h.Ns mainGlobals mg) (c : SaysRA chk fn tabs [] w h K) : Def P w K mg base "_law_sum" 1 ["_law_shape_here", "_law_weights_here", "_law_amounts"] (spLSum K) := by
  obtain ⟨fd, F⟩ := c.def_ 17 (d := d_law_sum) rfl
  exact ⟨_, fd, glo_fn X G c (List.mem_of_getElem? (i := 17) rfl), F.kp, F.bindsN (fun _ _ _ _ _ _ us hl => match us, hl with | [_, _, _], _ => rfl), ok_law_sum (top_of X G c) F⟩
theorem rz_BadTable (X : K.In h) (G : h.Ns mainGlobals mg) (c : SaysRA chk fn tabs [] w h K) : RzX P w K mg base "BadTable" (ca K 5) ["part"] := by
  obtain ⟨fd, F⟩ := c.def_ 32 (d := d_BadTable) rfl
  obtain ⟨iC, tI, no⟩ := iniB_ok (List.all_eq_true.mp (ba2 (ba2 c.look).2).1 _ (List.mem_of_getElem? (i := 1) (a := (("BadTable" : Str), ([("part" : Str)] : List Str))) rfl))
  exact ⟨_, fd, (top_of X G c).c_BadTable, (top_of X G c).ox 5 (by decide), no, iC, tI, ok_init1N (p1 := _) (p2 := _) (q1 := _) (q2 := _) (q3 := _) (q4 := _) F ⟨rfl, rfl, rfl, by decide +kernel, rfl, by decide +kernel, by decide +kernel⟩ (by decide +kernel) (by decide +kernel) (by decide +kernel) (by decide +kernel) (fun _ => rfl), F.bindsN (fun _ _ _ _ _ _ us hl => match us, hl with | [_, _], _ => rfl)⟩
theorem dex_check_shape_tables (X : K.In h) (G : h.Ns mainGlobals mg) (c : SaysRA chk fn tabs [] w h K) : DefX (L2.CX P w) P w K mg base "check_shape_tables" 3 ["shape"] (spIns K "Shape") := by
  obtain ⟨fd, F⟩ := c.def_ 27 (d := d_check_shape_tables) rfl
  exact ⟨_, fd, glo_fn X G c (List.mem_of_getElem? (i := 27) rfl), F.kp, F.bindsN (fun _ _ _ _ _ _ us hl => match us, hl with | [_], _ => rfl), ok_check_shape_tables (top_of X G c) (rz_BadTable X G c) F, fun p e s u => by cases e; exact bind_ofN F (fun _ _ _ _ _ _ => rfl) s⟩
theorem mx_Table (X : K.In h) (G : h.Ns mainGlobals mg) (c : SaysRA chk fn tabs [] w h K) : MakeX (L2.CX P w) P w K mg base "Table" (He.ga K "Table") 5 ["self", "shape", "amounts"] [] (spTable K) := by
  obtain ⟨fd, F⟩ := c.def_ 49 (d := d_Table_init) rfl
  obtain ⟨ds, vd, bd⟩ := FunD.binds1 (ps := ["self", "shape", "amounts"]) F 3 1 (by simp [d_Table_init, He5.DefA.dvs]) rfl (fun T kV doc pm an cdv ct us its hu hi => by
    match us, its, hu, hi with
    | [_, _, _], [_], _, _ => exact ⟨_, rfl, rfl⟩)
  exact ⟨_, fd, ds, (top_of X G c).m_Table, (top_of X G c).g_Table, bd, vd, ok_table_init (top_of X G c) (dex_check_shape_tables X G c) (dex_check_amounts X G c) (rz_BadTable X G c) F⟩
theorem def_is_table_of (X : K.In h) (G : h.Ns mainGlobals mg) (c : SaysRA chk fn tabs [] w h K) : Def P w K mg base "is_table_of" 3 ["value", "shape"] (spIsOf K "Table") := by
  obtain ⟨fd, F⟩ := c.def_ 8 (d := d_is_table_of) rfl
  exact ⟨_, fd, glo_fn X G c (List.mem_of_getElem? (i := 8) rfl), F.kp, F.bindsN (fun _ _ _ _ _ _ us hl => match us, hl with | [_, _], _ => rfl), ok_is_table_of (top_of X G c) (m_Shape_eq X G c) F⟩
theorem m_Table_getitem (X : K.In h) (G : h.Ns mainGlobals mg) (c : SaysRA chk fn tabs [] w h K) : MethS (L2.CX P w) P w K mg base (He.ga K "Table") "__getitem__" 4 ["self", "at"] (spAt K "Table" "amounts") := by
  obtain ⟨fd, F⟩ := c.def_ 50 (d := d_Table_getitem) rfl
  exact ⟨_, fd, (top_of X G c).m_Table___getitem__, fi_of F, F.bindsN (fun _ _ _ _ _ _ us hl => match us, hl with | [_, _], _ => rfl), ok_Table_at (top_of X G c) (m_Shape_contains X G c) (rz_BadPlace X G c) F⟩
theorem co_Question (X : K.In h) (G : h.Ns mainGlobals mg) (c : SaysRA chk fn tabs [] w h K) : CallX (L2.CX P w) P w K mg base (He.ga K "Question") 6 ["self", "table"] ["table"] (spCall K) := by
  obtain ⟨fd, F⟩ := c.def_ 52 (d := d_Question_call) rfl
  have M := (top_of X G c).m_Question___call__
  exact ⟨_, fd, ⟨M.at_, M.fn, fi_of F⟩, F.bindsN (fun _ _ _ _ _ _ us hl => match us, hl with | [_, _], _ => rfl), ok_question_call (top_of X G c) (def_is_table_of X G c) (m_Table_getitem X G c) (rz_BadTable X G c) F, kbn_of F 1 _ (fun us ws => us ++ ws) (fun r1 r2 => r1.append r2) (fun _ _ _ _ _ _ us ws l1 l2 => match us, ws, l1, l2 with | [_], [_], _, _ => rfl)⟩
theorem co_Book (X : K.In h) (G : h.Ns mainGlobals mg) (c : SaysRA chk fn tabs [] w h K) : CallX (L2.CX P w) P w K mg base (He.ga K "Book") 8 ["self", "table"] ["table"] (spBookCall K) := by
  obtain ⟨fd, F⟩ := c.def_ 59 (d := d_Book_call) rfl
  have M := (top_of X G c).m_Book___call__
  exact ⟨_, fd, ⟨M.at_, M.fn, fi_of F⟩, F.bindsN (fun _ _ _ _ _ _ us hl => match us, hl with | [_, _], _ => rfl), ok_Book_call (top_of X G c) (def_is_table_of X G c) (co_Question X G c) (rz_BadTable X G c) F, kbn_of F 1 _ (fun us ws => us ++ ws) (fun r1 r2 => r1.append r2) (fun _ _ _ _ _ _ us ws l1 l2 => match us, ws, l1, l2 with | [_], [_], _, _ => rfl)⟩
theorem def_law_answers_right (X : K.In h) (G : h.Ns mainGlobals mg) (c : SaysRA chk fn tabs [] w h K) : Def P w K mg base "_law_answers_right" 10 ["_law_pen_here", "_law_book_here", "_law_shape_here", "_law_entries_here"] (spAnswers K) := by
  obtain ⟨fd, F⟩ := c.def_ 22 (d := d_law_answers_right) rfl
  exact ⟨_, fd, glo_fn X G c (List.mem_of_getElem? (i := 22) rfl), F.kp, F.bindsN (fun _ _ _ _ _ _ us hl => match us, hl with | [_, _, _, _], _ => rfl), ok_law_answers_right (top_of X G c) (def_law_weights X G c) (def_law_sum X G c) (mx_Table X G c) (co_Book X G c) F⟩
theorem m_Book_eq (X : K.In h) (G : h.Ns mainGlobals mg) (c : SaysRA chk fn tabs [] w h K) : MethS CX0 P w K mg base (He.ga K "Book") "__eq__" 6 ["self", "other"] (spBookEq K) := by
  obtain ⟨fd, F⟩ := c.def_ 66 (d := d_Book_eq) rfl
  exact ⟨_, fd, (top_of X G c).m_Book___eq__, fi_of F, F.bindsN (fun _ _ _ _ _ _ us hl => match us, hl with | [_, _], _ => rfl), ok_Book_eq (top_of X G c) (m_Shape_eq X G c) (m_Question_eq X G c) F⟩
theorem dex_check_other_books (X : K.In h) (G : h.Ns mainGlobals mg) (c : SaysRA chk fn tabs [] w h K) : DefX (L2.CX P w) P w K mg base "check_other_books" 4 ["book", "other"] (spOther K "Book") := by
  obtain ⟨fd, F⟩ := c.def_ 30 (d := d_check_other_books) rfl
  exact ⟨_, fd, glo_fn X G c (List.mem_of_getElem? (i := 30) rfl), F.kp, F.bindsN (fun _ _ _ _ _ _ us hl => match us, hl with | [_, _], _ => rfl), ok_check_other_books (top_of X G c) (m_Shape_eq X G c) (rz_BadBook X G c) F, fun p e => by cases e⟩
theorem m_Book_le (X : K.In h) (G : h.Ns mainGlobals mg) (c : SaysRA chk fn tabs [] w h K) : MethS (L2.CX P w) P w K mg base (He.ga K "Book") "__le__" 6 ["self", "other"] (spBookLe K) := by
  obtain ⟨fd, F⟩ := c.def_ 65 (d := d_Book_le) rfl
  exact ⟨_, fd, (top_of X G c).m_Book___le__, fi_of F, F.bindsN (fun _ _ _ _ _ _ us hl => match us, hl with | [_, _], _ => rfl), ok_Book_le (top_of X G c) (dex_check_other_books X G c) (m_Book_contains X G c) (m_Book_getitem X G c) (m_Question_eq X G c) F⟩
theorem mx_Book_without (X : K.In h) (G : h.Ns mainGlobals mg) (c : SaysRA chk fn tabs [] w h K) : MethX (L2.CX P w) P w K mg base (He.ga K "Book") "without" 8 ["self", "name"] (spWithout K) := by
  obtain ⟨fd, F⟩ := c.def_ 58 (d := d_Book_without) rfl
  exact ⟨_, fd, (top_of X G c).m_Book_without, F.bindsN (fun _ _ _ _ _ _ us hl => match us, hl with | [_, _], _ => rfl), ok_Book_without (top_of X G c) (m_Book_contains X G c) (m_Book_getitem X G c) (rz_NoName X G c) (mr_Book X G c) F⟩
theorem mk_Book_without (X : K.In h) (G : h.Ns mainGlobals mg) (c : SaysRA chk fn tabs [] w h K) : MethKX (L2.CX P w) P w K mg base (He.ga K "Book") "without" 8 ["self", "name"] ["name"] (spWithout K) := by
  obtain ⟨fd, F⟩ := c.def_ 58 (d := d_Book_without) rfl
  exact ⟨_, fd, (top_of X G c).m_Book_without, F.bindsN (fun _ _ _ _ _ _ us hl => match us, hl with | [_, _], _ => rfl), ok_Book_without (top_of X G c) (m_Book_contains X G c) (m_Book_getitem X G c) (rz_NoName X G c) (mr_Book X G c) F, kbn_of F 1 _ (fun us ws => us ++ ws) (fun r1 r2 => r1.append r2) (fun _ _ _ _ _ _ us ws l1 l2 => match us, ws, l1, l2 with | [_], [_], _, _ => rfl)⟩
theorem mkr_Book_with_question (X : K.In h) (G : h.Ns mainGlobals mg) (c : SaysRA chk fn tabs [] w h K) : MethKR (L2.CX P w) P w K mg base (He.ga K "Book") "with_question" 8 ["self", "name", "question"] ["question", "name"] (spWith K) := by
  obtain ⟨fd, F⟩ := c.def_ 57 (d := d_Book_with_question) rfl
  exact ⟨_, fd, (top_of X G c).m_Book_with_question, F.bindsN (fun _ _ _ _ _ _ us hl => match us, hl with | [_, _, _], _ => rfl), ok_Book_with_question (top_of X G c) (def_is_name X G c) (def_is_question_of X G c) (m_Book_getitem X G c) (rz_BadBook X G c) (rz_BadName X G c) (mr_Book X G c) F, kbn_of F 1 _ (fun us ws => us ++ ws.reverse) (fun r1 r2 => r1.append (vals_rev r2)) (fun _ _ _ _ _ _ us ws l1 l2 => match us, ws, l1, l2 with | [_], [_, _], _, _ => rfl)⟩
theorem def_law_changed_right (X : K.In h) (G : h.Ns mainGlobals mg) (c : SaysRA chk fn tabs [] w h K) : Def P w K mg base "_law_changed_right" 13 ["_law_pen_here", "_law_book_here", "_law_shape_here", "_law_entries_here"] (spChanged K) := by
  obtain ⟨fd, F⟩ := c.def_ 23 (d := d_law_changed_right) rfl
  exact ⟨_, fd, glo_fn X G c (List.mem_of_getElem? (i := 23) rfl), F.kp, F.bindsN (fun _ _ _ _ _ _ us hl => match us, hl with | [_, _, _, _], _ => rfl), ok_law_changed_right (top_of X G c) (def_law_pick X G c) (def_law_weights X G c) (def_law_book X G c) (def_law_told_right X G c) (m_Book_eq X G c) (m_Book_le X G c) (mx_Book_without X G c) (mk_Book_without X G c) (mkr_Book_with_question X G c) (mx_Question X G c) F⟩
theorem def_law_bare (X : K.In h) (G : h.Ns mainGlobals mg) (c : SaysRA chk fn tabs [] w h K) : Def P w K mg base "_law_bare" 1 ["_law_weights_here"] (spBare K) := by
  obtain ⟨fd, F⟩ := c.def_ 16 (d := d_law_bare) rfl
  exact ⟨_, fd, glo_fn X G c (List.mem_of_getElem? (i := 16) rfl), F.kp, F.bindsN (fun _ _ _ _ _ _ us hl => match us, hl with | [_], _ => rfl), ok_law_bare (top_of X G c) F⟩
theorem m_Book_or (X : K.In h) (G : h.Ns mainGlobals mg) (c : SaysRA chk fn tabs [] w h K) : MethS (L2.CX P w) P w K mg base (He.ga K "Book") "__or__" 8 ["self", "other"] (spBookOr K) := by
  obtain ⟨fd, F⟩ := c.def_ 64 (d := d_Book_or) rfl
  exact ⟨_, fd, (top_of X G c).m_Book___or__, fi_of F, F.bindsN (fun _ _ _ _ _ _ us hl => match us, hl with | [_, _], _ => rfl), ok_Book_or (top_of X G c) (dex_check_other_books X G c) (m_Book_contains X G c) (m_Book_getitem X G c) (m_Question_eq X G c) (it_Book X G c) (rz_Taken X G c) (mr_Book X G c) F⟩
theorem def_law_joined_right (X : K.In h) (G : h.Ns mainGlobals mg) (c : SaysRA chk fn tabs [] w h K) : Def P w K mg base "_law_joined_right" 13 ["_law_shape_here", "_law_entries_here", "_law_others"] (spJoined K) := by
  obtain ⟨fd, F⟩ := c.def_ 24 (d := d_law_joined_right) rfl
  exact ⟨_, fd, glo_fn X G c (List.mem_of_getElem? (i := 24) rfl), F.kp, F.bindsN (fun _ _ _ _ _ _ us hl => match us, hl with | [_, _, _], _ => rfl), ok_law_joined_right (top_of X G c) (def_law_book X G c) (def_law_bare X G c) (m_Book_eq X G c) (m_Book_le X G c) (m_Book_or X G c) F⟩
theorem mx_Table0 (X : K.In h) (G : h.Ns mainGlobals mg) (c : SaysRA chk fn tabs [] w h K) : MakeX (L2.CX P w) P w K mg base "Table" (He.ga K "Table") 5 ["self", "shape", "amounts"] [.non] (spTable K) := by
  obtain ⟨fd, F⟩ := c.def_ 49 (d := d_Table_init) rfl
  obtain ⟨ds, vd, bd⟩ := FunD.binds1 (ps := ["self", "shape", "amounts"]) F 2 0 (by simp [d_Table_init, He5.DefA.dvs]) rfl (fun T kV doc pm an cdv ct us its hu hi => by
    match us, its, hu, hi with
    | [_, _], [_], _, _ => exact ⟨_, rfl, rfl⟩)
  exact ⟨_, fd, ds, (top_of X G c).m_Table, (top_of X G c).g_Table, bd, vd, ok_table_init (top_of X G c) (dex_check_shape_tables X G c) (dex_check_amounts X G c) (rz_BadTable X G c) F⟩
theorem def_whole_text (X : K.In h) (G : h.Ns mainGlobals mg) (c : SaysRA chk fn tabs [] w h K) : Def P w K mg base "whole_text" 1 ["number"] spWhTx := by
  obtain ⟨fd, F⟩ := c.def_ 3 (d := d_whole_text) rfl
  exact ⟨_, fd, glo_fn X G c (List.mem_of_getElem? (i := 3) rfl), F.kp, F.bindsN (fun _ _ _ _ _ _ us hl => match us, hl with | [_], _ => rfl), ok_whole_text (top_of X G c) F⟩
theorem m_Question_getitem (X : K.In h) (G : h.Ns mainGlobals mg) (c : SaysRA chk fn tabs [] w h K) : MethS (L2.CX P w) P w K mg base (He.ga K "Question") "__getitem__" 4 ["self", "at"] (spAt K "Question" "weights") := by
  obtain ⟨fd, F⟩ := c.def_ 53 (d := d_Question_getitem) rfl
  exact ⟨_, fd, (top_of X G c).m_Question___getitem__, fi_of F, F.bindsN (fun _ _ _ _ _ _ us hl => match us, hl with | [_, _], _ => rfl), ok_Question_at (top_of X G c) (m_Shape_contains X G c) (rz_BadPlace X G c) F⟩
theorem m_Question_str (X : K.In h) (G : h.Ns mainGlobals mg) (c : SaysRA chk fn tabs [] w h K) : MethS CX0 P w K mg base (He.ga K "Question") "__str__" 6 ["self"] (spQStr K) := by
  obtain ⟨fd, F⟩ := c.def_ 55 (d := d_Question_str) rfl
  exact ⟨_, fd, (top_of X G c).m_Question___str__, fi_of F, F.bindsN (fun _ _ _ _ _ _ us hl => match us, hl with | [_], _ => rfl), ok_question_str (top_of X G c) (def_whole_text X G c) (m_Question_getitem X G c) F⟩
theorem m_Book_str (X : K.In h) (G : h.Ns mainGlobals mg) (c : SaysRA chk fn tabs [] w h K) : MethS CX0 P w K mg base (He.ga K "Book") "__str__" 10 ["self"] (spBookStr K) := by
  obtain ⟨fd, F⟩ := c.def_ 67 (d := d_Book_str) rfl
  exact ⟨_, fd, (top_of X G c).m_Book___str__, fi_of F, F.bindsN (fun _ _ _ _ _ _ us hl => match us, hl with | [_], _ => rfl), ok_Book_str (top_of X G c) (m_Question_eq X G c) (m_Question_str X G c) F⟩
theorem facts (X : K.In h) (G : h.Ns mainGlobals mg) (hfa : mg ("law" : Str) = some (.ref f)) (c : SaysRA chk fn tabs [] w h K) :
    ∃ fd : FuncData, (∀ (s : Shared) (v : Value), BindsTo s fd ⟨[v], []⟩ [("_law_script", v)]) ∧ ∀ base : Heap, K.In base → base.Ns mainGlobals mg → FnG P w K mg base CX0 15 f fd ["_law_script"] (spLaw K) := by
  obtain ⟨fd, F⟩ := c.def_ 25 (d := d_law) rfl
  have e := hfa.symm.trans (glo_fn X G c (x := "law") (List.mem_of_getElem? (i := 25) rfl))
  cases e
  have b := FunD.bindsA (ps := ["_law_script"]) F fun _ _ _ _ _ _ us hl => match us, hl with | [_], _ => rfl
  exact ⟨fd, fun s v => b s [v] rfl, fun base _ _ => FnG.of (ok_law (top_of X G c) (def_law_pen X G c) (def_law_shape X G c) (def_law_entries X G c) (def_law_book X G c) (def_law_told_right X G c) (def_law_answers_right X G c) (def_law_changed_right X G c) (def_law_joined_right X G c) (mx_Question X G c) (mx_Table0 X G c) (mx_Shape X G c) (mr_Book X G c) (co_Book X G c) (m_Book_eq X G c) (m_Book_str X G c) F)⟩
end
end L2.K20
open PySem PySem.W PySem.Calls PyProof.Rows
theorem PySem.Challenge.cw_rowvault_k20_books_made_and_asked_holds : PySem.Challenge.rw_rowvault_k20_books_made_and_asked.Holds := by
  w_on; o_law
  refine HandSHeadRun.head_any (r := OpenLaw.row PySem.Challenge.rw_rowvault_k20_books_made_and_asked) (q := view (OpenLaw.row PySem.Challenge.rw_rowvault_k20_books_made_and_asked).prog [100]) (H := L2.K20.hk) (ob := L2.K20.ob) (M := 20000) (loose := L2.K20.loose) (d := HandSHeadRun.topDef (OpenLaw.row PySem.Challenge.rw_rowvault_k20_books_made_and_asked).prog 100) (kwd := []) L2.K20.ob_eq
    (by kernel_rfl) (fun s => by kernel_rfl) L2.K20.run (by kernel_rfl) (by kernel_rfl) (by kernel_rfl) (by rfl) (by first | assumption | decide +kernel) (by decide +kernel) ⟨rfl, rfl, rfl, rfl, rfl, by decide +kernel⟩ ?hw ?hc
  case hw => w_witness2
  case hc =>
    refine L2.RV.walkG (l := PySem.Challenge.rw_rowvault_k20_books_made_and_asked) (n := 63) (k := 15) (x := "_law_script") (CX := L2.CX0) rfl (by decide) (by kernel_rfl) ⟨rfl, by decide, by decide⟩ ?F (fun _ _ _ _ z => z)
    intro w mg fa h Y G hmg0
    obtain ⟨K, KX, c⟩ := Y
    have hmg : mg ("law" : PySem.Str) = some (.ref fa) := by
      have e : (HandSHeadRun.topDef (OpenLaw.row PySem.Challenge.rw_rowvault_k20_books_made_and_asked).prog 100).name = ("law" : PySem.Str) := by kernel_rfl
      rw [← e]
      exact hmg0
    obtain ⟨fd, hb, hF⟩ := L2.K20.facts (P := (PySem.Challenge.rw_rowvault_k20_books_made_and_asked).prog) (w := w) KX G hmg c
    exact ⟨K, fd, L2.K20.spLaw K, KX, hb, fun H a ns hl hS => ⟨a, ns, rfl, hS, hl, fun _ => rfl⟩, hF⟩
