import PyProof.Rows.All
import Wide.All
import OpenK.AllK
import Wide.FinOn
import HandS.ForMost
import HandS.Exc
import HandS.ExcOwn
import HandS.ExcInit
import HandS.ExcIs
import HandS.Defaults
import HandS.Spec
import HandS.Ends
import HandS.HeadEnd
import HandS.ExcField
import HandS.MakeKwOnly
import HandS.Dict
import KE.KStateDown
import HandS.Head0
import HandS.Head1
import HandS.Head2
import HandS.HeadHook1
import HandS.HeadHook2
import HandS.ExcValue
import PySem.Challenge.RW_rowvault_k00_errors_and_their_fields
set_option Elab.async false
set_option linter.all false
set_option maxRecDepth 100000
set_option maxHeartbeats 4000000
/-! Defs that are only called where no guard of a repr is under way: the promise, the rule by the body, the call. -/
namespace L2.RV
open PySem PySem.Spec PyProof.Rows
structure FnG (P : Program) (w : World) (K : PySem.W.Frag) (mg : Str → Option Value) (base : Heap) (CX : CXT) (k : Nat) (f : Addr) (fd : FuncData) (ps : List Str) (sp : Sp) : Prop where
  many : ∀ vs H Q E, sp vs H Q E → vs.length = ps.length
  go : ∀ (A : Around) (outer : List Env) (s : Shared) (H : Hp) (args : Args) (us : List Value) (vs : List V) (Q : VK) (E : XK), A.guards = some [] → Room k A → Env0 P w K mg base A outer s H →
    BindsTo s fd args (ps.zip us) → Vals vs us → sp vs H Q E → codeAny (model P w) A (.call (.ref f) args) (CR CX outer P w H s Q E) s
section
variable {P : Program} {w : World} {K : PySem.W.Frag} {mg : Str → Option Value} {base : Heap} {CX : CXT} {k : Nat} {f : Addr} {fd : FuncData} {ps : List Str} {sp : Sp}
theorem FnG.of (F : FnOk P w K mg base CX k f fd ps sp) : FnG P w K mg base CX k f fd ps sp :=
  ⟨F.len, fun A o s H args us vs Q E _ hr => F.run A o s H args us vs Q E hr⟩
theorem fnG_of {name qual : Str} {params : Arguments} {body : List Stmt} {scope : Scope} {dV kV doc pm cdv ct oc : Value} {an od : Option Addr} {osl : Array (Option Value)} {N : List Str}
    (lk : K.lookup f = some ⟨oc, od, .func (PySem.W.fnOf name qual params body scope dV kV doc pm an cdv ct), osl⟩) (hc : PySem.W.codeIn K cdv qual = true) (S : FnScope N ps scope)
    (many : ∀ vs H Q E, sp vs H Q E → vs.length = ps.length)
    (hb : ∀ (A : Around) (outer : List Env) (s : Shared) (H : Hp) (vs : List V) (Q : VK) (E : XK), A.guards = some [] → Room k (A.deeper (envOfC qual scope s.heap.objs.size f cdv)) → sp vs H Q E →
      ∃ t, PSs (cxOf CX P w K mg base N qual scope f cdv A outer s H E) body t ∧ t { nx := fun _ H' => Q .non H', rt := Q } (start N vs) H) :
    FnG P w K mg base CX (k + 1) f (PySem.W.fnOf name qual params body scope dV kV doc pm an cdv ct) ps sp := by
  constructor
  · exact many
  intro A outer s H args us vs Q E hg room en bnd rel hsp
  have kept : ∀ b o, base.get? b = some o → s.heap.get? b = some o := fun b o e => (en.bs b o e).1
  have inK : K.In s.heap := en.mod.kin.keeps kept
  have loc : ∀ y ∈ ps.zip us, scope.names.lookup y.1 = some .local ∨ (scope.names.lookup y.1 = some .cell ∧ ((cellsFrom (s.heap.objs.size + 1) scope.names []).lookup y.1).isSome = true) := by
    rintro ⟨n, v⟩ hy
    cases S.par n (List.of_mem_zip hy).1 with
    | inl q => exact Or.inl q
    | inr q => exact Or.inr ⟨q, PySem.W.cellsFrom_some _ _ _ (.inl q)⟩
  apply codeAny_call_function (fd := PySem.W.fnOf name qual params body scope dV kV doc pm an cdv ct) room.depth (inK _ _ lk) rfl S.co S.gen rfl (PySem.W.codeRec_of inK hc)
  apply bnd
  apply wpAny_newFunctionEnv_cells S.kind loc
  intro env he s1 x
  subst he
  refine ⟨(en.mod.nolimit.keeps kept).keeps x.toInCall.keep, ?_⟩
  apply codeAny_func
  obtain ⟨t, ht, hq⟩ := hb A outer s H vs Q E hg (room.deeper _) hsp
  have J : Inv (cxOf CX P w K mg base N qual scope f cdv A outer s H E) [] (start N vs) H s1 := inv_start S room.hd en (many _ _ _ _ hsp) rel x
  refine wpAny_mono (ht.run [] s1 (start N vs) H _ J hq) ?_ fun e s' hs => hs
  intro fl s' hs
  cases fl with
  | ret u =>
    obtain ⟨v, σ', H', J', rv, q⟩ := hs
    exact ⟨v, H', J'.os, J'.bare, J'.base, J'.hok, rv, q⟩
  | next =>
    obtain ⟨σ', H', J', q⟩ := hs
    exact ⟨.non, H', J'.os, J'.bare, J'.base, J'.hok, rfl, q⟩
  | brk =>
    obtain ⟨_, _, _, q⟩ := hs
    exact q.elim
  | cont =>
    obtain ⟨_, _, _, q⟩ := hs
    exact q.elim
end
section
variable {P : Program} {w : World} {K : PySem.W.Frag} {mg : Str → Option Value} {base : Heap} {x qual : Str} {params : Arguments} {body : List Stmt} {scope : Scope} {dvs : List V} {kws : List (Str × V)} {f : Addr} {fd : FuncData}
theorem okG {CX : CXT} {N ps : List Str} {k : Nat} {sp : Sp} (F : FunD K x qual params body scope dvs kws f fd) (S : FnScope N ps scope) (many : ∀ vs H Q E, sp vs H Q E → vs.length = ps.length)
    (hb : ∀ (cdv : Value) (A : Around) (outer : List Env) (s : Shared) (H : Hp) (vs : List V) (Q : VK) (E : XK), A.guards = some [] → Room k (A.deeper (envOfC qual scope s.heap.objs.size f cdv)) → sp vs H Q E →
      ∃ t, PSs (cxOf CX P w K mg base N qual scope f cdv A outer s H E) body t ∧ t { nx := fun _ H' => Q .non H', rt := Q } (start N vs) H) : FnG P w K mg base CX (k + 1) f fd ps sp := by
  obtain ⟨oc, od, dV, kV, doc, pm, an, cdv, ct, osl, rfl, lk, hcd, _, _⟩ := F.ex
  exact fnG_of lk hcd S many fun A outer s H vs Q E hg hr hsp => hb cdv A outer s H vs Q E hg hr hsp
end
section
variable {X : Cx} {CX : CXT} {k : Nat} {f : Addr} {fd : FuncData} {ps : List Str} {sp : Sp} {dvs : List V} {ds : List Value} {E : XK} {x : Str} {p pos : Pos} {e : Expr} {es : List Expr} {t : TA}
/-- a guarded def is called from a body that stands so too -/
theorem goG {pins : List (Addr × Obj)} {σ : St} {H : Hp} {s : Shared} {Q : VK} {us : List Value} {vs : List V} (F : FnG X.prog X.w X.K X.mg X.base CX k f fd ps sp) (hg : X.A.guards = some []) (hr : Room k X.A) (hb : Binds X.K fd ps ds) (hd : Vals dvs ds)
    (hx : Passes CX X E) (I : Inv X pins σ H s) (r : Vals vs us) (h : sp (vs ++ dvs) H Q E) : wpAny (model X.prog X.w) X.A (call (.ref f) us) (EP X pins σ Q) X.xe s := by
  have both : Vals (vs ++ dvs) (us ++ ds) := r.append hd
  have len : (us ++ ds).length = ps.length := both.length.symm.trans (F.many _ _ _ _ h)
  apply wpAny_call
  refine codeAny_mono (F.go X.A X.stack s H ⟨us, []⟩ (us ++ ds) (vs ++ dvs) Q E hg hr I.env0 (hb s us I.kIn len) both h) ?_
  intro r s' hq
  match r, hq with
  | .error e, hq => exact hx pins σ H s e s' I hq
  | .ok (.ret u), hq => exact I.after hq
  | .ok .next, hq => exact hq.elim
  | .ok .brk, hq => exact hq.elim
  | .ok .cont, hq => exact hq.elim
theorem pe_callG (F : FnG X.prog X.w X.K X.mg X.base CX k f fd ps sp) (hgu : X.A.guards = some []) (hr : Room k X.A) (hg : Gl X x) (hm : X.mg x = some (.ref f)) (hk : PySem.W.keepIn X.K (.ref f) = true) (hb : Binds X.K fd ps ds) (hd : Vals dvs ds) (hx : Passes CX X E)
    (ha : PA X (e :: es) t) (hdb : (x == ("__debug__" : Str)) = false := by decide) (he : starEach (e :: es) X.env = (false, eval e X.env) :: starEach es X.env := by rfl) (hpl : (backTo pos (starEach es X.env)).any (·.1) = false := by rfl) :
    PE X (.Call (.Name x p) (e :: es) [] pos) (tCall sp dvs E t) := by
  constructor
  intro pins s σ H Q I h
  apply wpAny_Call_Name_kw
  refine ld_glob I hg hm ?_ hdb
  refine PySem.W.callWith_K (h₀ := X.base) I.ok.mod.kin hk ?_ he hpl
  refine thn (ha.run pos pins s σ H _ I h) ?_
  rintro us s1 ⟨vs, H1, I1, r, q⟩
  exact ⟨I1.kIn, goG F hgu hr hb hd hx I1 r q⟩
end
end L2.RV
set_option Elab.async false
set_option linter.all false
set_option maxRecDepth 100000
set_option maxHeartbeats 4000000
/-! The end of a law's proof where its def is guarded. -/
namespace L2.RV
open PySem PySem.Spec PyProof.Rows
abbrev listObj (vs : List Value) : Obj := { cls := .type "list", data := .seq vs.toArray }
theorem lawG {P : Program} {w : World} {K : PySem.W.Frag} {mg mb : Str → Option Value} {CX : CXT} {k : Nat} {fa a : Addr} {fd : FuncData} {x : Str} {sp : Sp} {s : Shared} {vs : List Value} {ns : List Int}
    (KX : K.In s.heap) (G : s.heap.Ns mainGlobals mg) (B : s.heap.Ns builtinsNs mb) (hB : ∀ x : Str, x ≠ "__name__" → mb x = bootBuiltins x) (lim : s.heap.NoLimit) (gens : s.gens = #[])
    (at_ : s.heap.get? a = some (listObj vs)) (areI : IntsAre vs ns) (few : ns.length ≤ sizeLine) (room : Room k callerA)
    (F : ∀ base : Heap, K.In base → base.Ns mainGlobals mg → FnG P w K mg base CX k fa fd [x] sp) (bind : ∀ (s : Shared) (u : Value), BindsTo s fd ⟨[u], []⟩ [(x, u)])
    (hsp : ∀ H : Hp, SqL K H a (ns.map V.int) → sp [.ref a] H (fun v _ => v = .bl true) fun _ _ _ => False)
    (no : ∀ H e s', CX [] H s (fun _ _ _ => False) e s' → False) :
    codeAny (model P w) callerA (.call (.ref fa) ⟨[.ref a], []⟩) (fun r s' => r = .ok (.ret (.bool true)) ∧ OldK s.heap s'.heap ∧ s'.os = s.os ∧ AllBare s'.gens) s := by
  have vals : Vals (ns.map V.int) vs := vals_ints areI
  have short : (ns.map V.int).length ≤ sizeLine := by rw [List.length_map]; exact few
  have size : vs.toArray.size ≤ sizeLine := by rw [List.size_toArray, areI.length]; exact few
  have main : ∀ H : Hp, (∀ b u, H b = some u → b = a ∧ u = .frz (listObj vs) (.lst (ns.map V.int)) ∧ K.lookup a = none) → SqL K H a (ns.map V.int) →
      codeAny (model P w) callerA (.call (.ref fa) ⟨[.ref a], []⟩) (fun r s' => r = .ok (.ret (.bool true)) ∧ OldK s.heap s'.heap ∧ s'.os = s.os ∧ AllBare s'.gens) s := by
    intro H only seq
    have stands : HOk P w H s.heap := by
      intro b u e
      obtain ⟨rfl, rfl, _⟩ := only b u e
      exact ⟨at_, short, vs, _, vals, at_⟩
    have hidden : ∀ {b : Addr} {o : Obj}, s.heap.get? b = some o → (∀ u, H b = some u → False) → (hidT s.heap H).get? b = some o := by
      intro b o e n
      apply hidT_get e
      cases q : H b with
      | none => rfl
      | some u => exact (n u q).elim
    have spaces : ∀ {b : Addr} {m : Str → Option Value}, s.heap.Ns b m → (hidT s.heap H).Ns b m := by
      rintro b m ⟨o, es, ep, e, d, more⟩
      refine ⟨o, es, ep, hidden e fun u q => ?_, d, more⟩
      obtain ⟨rfl, _, _⟩ := only b u q
      rw [at_] at e
      cases e
      have d' : Data.seq vs.toArray _ = Data.dict es ep := d
      cases d'
    have inK : K.In (hidT s.heap H) := by
      intro b o e
      refine hidden (KX b o e) fun u q => ?_
      obtain ⟨rfl, _, z⟩ := only b u q
      rw [z] at e
      cases e
    have entry : Env0 P w K mg (hidT s.heap H) callerA [] s H := by
      refine ⟨rfl, ⟨inK, spaces G, ⟨mb, spaces B, hB⟩, ?_⟩, fun b o e => of_hidT e, Nat.le_of_eq (hidT_size _ _), trivial, fun b hb => ?_, stands, .of_eq gens⟩
      · obtain ⟨mc, h1, h2⟩ := lim
        exact ⟨mc, spaces h1, h2⟩
      · exact absurd (show b ∈ ([] : List Addr) from hb) (by simp)
    refine codeAny_mono ((F _ inK (spaces G)).go callerA [] s H ⟨[.ref a], []⟩ [.ref a] [.ref a] _ _ rfl room entry (bind s (.ref a)) (.cons rfl .nil) (hsp H seq)) ?_
    intro r s' h
    match r, h with
    | .error e, h => exact (no H e s' h).elim
    | .ok .next, h => exact h.elim
    | .ok .brk, h => exact h.elim
    | .ok .cont, h => exact h.elim
    | .ok (.ret u), h =>
      obtain ⟨v, H', os, bare, un, stands', rel, q⟩ := h
      have q' : v = .bl true := q
      subst q'
      obtain rfl : u = Value.bool true := rel
      refine ⟨rfl, OldK.of_keep fun b o e => ?_, os, bare⟩
      cases q : H b with
      | none => exact un.keep b o e q (fun z => absurd (show b ∈ ([] : List Addr) from z) (by simp)) (by simp)
      | some u =>
        obtain ⟨rfl, rfl, _⟩ := only b u q
        obtain ⟨e2, _⟩ := stands' b _ (un.frzs b _ _ q)
        rw [at_] at e
        cases e
        exact e2
  cases old : K.lookup a with
  | some o =>
    have e := KX a o old
    rw [at_] at e
    cases e
    refine main (fun _ => none) (fun b u z => ?_) (.inr ⟨_, vs.toArray, _, old, rfl, rfl, rfl, size, by simpa using vals⟩)
    have z' : (none : Option HO) = some u := z
    cases z'
  | none =>
    refine main (fun b => if b = a then some (.frz (listObj vs) (.lst (ns.map V.int))) else none) (fun b u z => ?_) (.inl (.inr ⟨listObj vs, if_pos rfl⟩))
    by_cases hb : b = a
    · have z' := (if_pos hb).symm.trans z
      cases z'
      exact ⟨hb, rfl, old⟩
    · have z' := (if_neg hb).symm.trans z
      cases z'
theorem walkG {l : PySem.W.OpenLaw} {n k : Nat} {q : Program} {loose : List Str} {XP : (Str → Option Value) → Heap → Prop} {YP : World → Heap → Prop} {d : DefRec} {CX : CXT} {x : Str}
    (hn : l.most = some n) (hn2 : n ≤ sizeLine) (hdf : d.params.defaults = []) (hr : Room k callerA)
    (F : ∀ (w : World) (mg : Str → Option Value) (fa : Addr) (h : Heap), YP w h → h.Ns mainGlobals mg → mg d.name = some (.ref fa) →
      ∃ (K : PySem.W.Frag) (fd : FuncData) (sp : Sp), K.In h ∧ (∀ (s : Shared) (u : Value), BindsTo s fd ⟨[u], []⟩ [(x, u)]) ∧
        (∀ (H : Hp) (a : Addr) (ns : List Int), ns.length ≤ n → SqL K H a (ns.map V.int) → sp [.ref a] H (fun v _ => v = .bl true) fun _ _ _ => False) ∧
        ∀ base : Heap, K.In base → base.Ns mainGlobals mg → FnG l.prog w K mg base CX k fa fd [x] sp)
    (no : ∀ (H : Hp) (s : Shared) (e : Value) (s' : Shared), CX [] H s (fun _ _ _ => False) e s' → False) :
    PySem.W.WalkO q loose XP YP l.row.toRowW d [] (fun f vs => PySem.call f vs) := by
  apply Att.attach_call hn hdf
  intro w s₀ s₁ mg mb fa o pm cd doc a vs ns G Y ho hd hcd hmg hobj hints hlen hg
  obtain ⟨K, fd, sp, KX, hb, hs, hF⟩ := F w mg fa _ Y G.T.g hmg
  exact lawG KX G.T.g G.T.b G.T.builtins G.T.nolimit hg hobj hints (Nat.le_trans hlen hn2) hr hF hb (fun H hS => hs H a ns hlen hS) fun H e s' => no H s₁ e s'
end L2.RV
set_option Elab.async false
set_option linter.all false
set_option maxRecDepth 100000
set_option maxHeartbeats 4000000
/-! An own exception class over ValueError called with keywords: at the library's level. -/
namespace PySem
namespace RVX
open PySem.HandSPX PySem.W PySem.Calls PyProof.Rows
section
variable {prog : Program} {w : World} {M : Model} {A : Around} {E : Value → Shared → Prop} {R : Result → Shared → Prop} {h : Heap} {g : Array GenState} {d : Drawn} {t : Nat} {os : OsState}
variable {nm q : Str} {C N : Addr} {bs bm bmB : List Value} {hdct : Bool} {sn : List Str} {sub : List Value} {ab : Bool} {col : Option Bool} {dd : Option Addr} {k0 k1 k2 k3 k5 : Option Value} {B newId initId : String}
  {us : List Value} {kw : List (Str × Value)}
theorem kwNewLook (F : ExcBaseFacts B newId initId bmB) (hT : ∀ X : String, bm.contains (.type X) = bmB.contains (.type X)) {Q : Unit → Shared → Prop}
    (hC : h.get? C = some (excClassObj nm q C N bs bm hdct sn sub ab col dd k0 k1 k2 k3 k5 newId)) (hq : Q () ⟨h, g, d, t, os⟩) : wpAny M A (checkBuiltinCall newId ⟨.ref C :: us, kw⟩) Q E ⟨h, g, d, t, os⟩ := by
  have hB : (Value.ref C :: bm).contains (.type B) = true := by rw [List.contains_cons, hT, F.hasB, Bool.or_true]
  have st := F.noStar
  simp only [checkBuiltinCall, F.newKind, F.newSplit, F.newRow]
  repeat (first
    | refine wpAny_loadPart_at hC ?_
    | (refine wpAny_isSubtype_exc hC ?_; rw [hB])
    | refine wpAny_staticBase_exc hC ?_
    | refine wpAny_madeBy_exc hC ?_
    | simp only [bne_self_eq_false, Bool.false_eq_true, if_false]
    | wp_step)
  exact hq
theorem kwTypeLook {Q : Unit → Shared → Prop} (hC : h.get? C = some (excClassObj nm q C N bs bm hdct sn sub ab col dd k0 k1 k2 k3 k5 newId)) (hq : Q () ⟨h, g, d, t, os⟩) :
    wpAny M A (checkBuiltinCall "type.__call__" ⟨.ref C :: us, kw⟩) Q E ⟨h, g, d, t, os⟩ := by
  have s := tc_sub
  have ty : (⟨h, g, d, t, os⟩ : Shared).TypeIs (.ref C) "type" := ⟨_, hC, rfl⟩
  simp only [checkBuiltinCall, tc_kind, tc_split]
  repeat (any_goals (first
    | assumption
    | with_reducible refine wpAny_loadPart_at hC ?_
    | with_reducible refine wpAny_onRaise ?_
    | with_reducible refine wpAny_map ?_
    | wp_step))
theorem kwNew (F : ExcBaseFacts B newId initId bmB) (hT : ∀ X : String, bm.contains (.type X) = bmB.contains (.type X)) (hC : h.get? C = some (excClassObj nm q C N bs bm hdct sn sub ab col dd k0 k1 k2 k3 k5 newId)) (few : us.length ≤ sizeLine)
    (hq : R (.ok (.ret (.ref (h.objs.size + 1)))) ⟨(h.push (W.kdv_tup us)).push (excO C h.objs.size), g, d, t, os⟩) : codeAny (model prog w) A (.builtin newId ⟨.ref C :: us, kw⟩) R ⟨h, g, d, t, os⟩ := by
  have ends := F.ends
  have inB : (Value.ref C :: bm).contains (.type B) = true := by rw [List.contains_cons, hT, F.hasB, Bool.or_true]
  have inA : (Value.ref C :: bm).contains (.type "AttributeError") = false := by rw [List.contains_cons, hT, F.noAttr]; rfl
  have inN : (Value.ref C :: bm).contains (.type "NameError") = false := by rw [List.contains_cons, hT, F.noName]; rfl
  apply codeAny_builtinAt F.entry
  unfold Builtin.«BaseException.__new__»
  apply wpAt_bind
  show wpAt _ _ _ (stack >>= _) _ _ _
  apply wpAt_bind
  apply wpAt_stack
  intro p below
  apply wpAt_of_wpAny
  wp_walk
  apply wpAt_of_wpAny
  rw [F.owner]
  repeat (first
    | with_reducible refine wpAny_madeHere_exc F.canon hC ?_
    | with_reducible refine wpAny_loadPart_at hC ?_
    | (with_reducible refine wpAny_isSubtype_exc hC ?_; first | rw [inB] | rw [inA] | rw [inN])
    | wp_step)
  show R _ _
  rw [Heap.size_push]
  exact hq
theorem kwTypeCall (F : ExcBaseFacts B newId initId bmB) (hT : ∀ X : String, bm.contains (.type X) = bmB.contains (.type X)) {fI : Addr} {Q : Fin → Shared → Prop} (hC : h.get? C = some (excClassObj nm q C N bs bm hdct sn sub ab col dd k0 k1 k2 k3 k5 newId))
    (hi : W.Looks (model prog w) h (typeLookup (.ref C) "__init__") (some (.ref fI))) (hb : ∀ self, W.Looks (model prog w) h (bindSpecial (.ref fI) self) (.ref fI, [self])) (few : us.length ≤ sizeLine)
    (hq : codeAny (model prog w) A (.call (.ref fI) ⟨.ref (h.objs.size + 1) :: us, kw⟩)
      (fun r s' => match r with | .ok (.ret v) => v = .none ∧ Q (.done (.ret (.ref (h.objs.size + 1)))) s' | .ok _ => False | .error e => E e s') ⟨(h.push (W.kdv_tup us)).push (excO C h.objs.size), g, d, t, os⟩) :
    wpAny (model prog w) A (Builtin.«type.__call__» ⟨.ref C :: us, kw⟩) Q E ⟨h, g, d, t, os⟩ := by
  repeat (first
    | with_reducible refine wpAny_loadPart_at hC ?_
    | with_reducible refine wpAny_madeBy_exc hC ?_
    | wp_step)
  apply codeAny_call_builtin_code (Code.quiet_builtin _ F.quiet)
  apply kwNewLook F hT hC
  apply kwNew F hT hC few
  show wpAny _ _ _ _ _ _
  have keep : ∀ b o, h.get? b = some o → ((h.push (W.kdv_tup us)).push (excO C h.objs.size)).get? b = some o := fun b o e => Heap.get?_push_of_some _ (Heap.get?_push_of_some _ e)
  have hC1 := keep _ _ hC
  have made : ((h.push (W.kdv_tup us)).push (excO C h.objs.size)).get? (h.objs.size + 1) = some (excO C h.objs.size) := by heap_get
  have own : (Value.ref C :: bm).contains (.ref C) = true := by simp
  have i1 := hi.keeps keep
  have b1 := (hb (.ref (h.objs.size + 1))).keeps keep
  unfold isInstance
  repeat (first
    | with_reducible refine wpAny_loadPart_at made ?_
    | (with_reducible refine wpAny_isSubtype_exc hC1 ?_; rw [own])
    | wp_step)
  show wpAny _ _ (typeLookup (.ref C) _) _ _ _
  apply i1.at
  apply wpAny_holding
  apply wpAny_bind
  apply b1.at
  apply wpAny_bind
  apply wpAny_call
  refine codeAny_mono hq ?_
  intro r s' z
  rcases r with e | (v | _ | _ | _) <;> first | exact z | exact z.elim | skip
  obtain ⟨rfl, z⟩ := z
  first
    | exact wpAny_pure (wpAny_pure z)
    | (wp_walk; exact z)
theorem kwCall (F : ExcBaseFacts B newId initId bmB) (hT : ∀ X : String, bm.contains (.type X) = bmB.contains (.type X)) {fI : Addr} (hC : h.get? C = some (excClassObj nm q C N bs bm hdct sn sub ab col dd k0 k1 k2 k3 k5 newId))
    (hi : W.Looks (model prog w) h (typeLookup (.ref C) "__init__") (some (.ref fI))) (hb : ∀ self, W.Looks (model prog w) h (bindSpecial (.ref fI) self) (.ref fI, [self])) (few : us.length ≤ sizeLine)
    (hq : codeAny (model prog w) (A.under (.builtin "type.__call__" ⟨.ref C :: us, kw⟩)) (.call (.ref fI) ⟨.ref (h.objs.size + 1) :: us, kw⟩) (W.InitBack (h.objs.size + 1) R) ⟨(h.push (W.kdv_tup us)).push (excO C h.objs.size), g, d, t, os⟩) :
    codeAny (model prog w) A (.call (.ref C) ⟨us, kw⟩) R ⟨h, g, d, t, os⟩ := by
  have l1 := tc_lookup
  have l2 := tc_bind (.ref C)
  have ty : (⟨h, g, d, t, os⟩ : Shared).TypeIs (.ref C) "type" := ⟨_, hC, rfl⟩
  apply codeAny_of_tree
  show wpAny _ _ (callAny (.ref C) _) _ _ _
  repeat (any_goals (first
    | assumption
    | with_reducible refine wpAny_loadPart_at hC ?_
    | wp_step))
  refine ⟨rfl, ?_⟩
  apply codeAny_call_builtin_at (Code.quiet_builtin _ (by decide +kernel)) entry_typeCall
  apply kwTypeLook hC
  apply kwTypeCall F hT hC hi hb few
  refine codeAny_mono hq ?_
  intro r s' z
  rcases r with e | (v | _ | _ | _) <;> exact z
end
end RVX
end PySem
set_option Elab.async false
set_option linter.all false
set_option maxRecDepth 100000
set_option maxHeartbeats 4000000
/-! Own exceptions as values: what the class must say, isinstance of one. -/
namespace PySem.W
open PySem PySem.Spec PySem.Calls PyProof.Rows
section
variable {prog : Program} {w : World} {A : Around} {E : Value → Shared → Prop} {s : Shared} {K : Frag} {x D : Addr} {ox : Obj} {od : Option Obj}
theorem rvClass {Q : Option Value → Shared → Prop} (ga : findIn K (.ref D) "__getattribute__" = some (some (.builtin "BaseException.__getattribute__"))) (gg : findIn K (.ref D) "__getattr__" = some none) (sb : subIn K (.ref D) (.type "BaseException") = some true)
    (hd : hasDictIn K D = true) (ca : findIn K (.ref D) "__class__" = some (some (.builtin "object.__class__")))
    (cg : specialIn K (.builtin "object.__class__") "__get__" = some (some (.builtin "getset_descriptor.__get__"))) (ct : takesIn K (.builtin "object.__class__") = some true) (mo : mroIn K D (.type "object") = some true)
    (X : K.In s.heap) (I : InstAt s.heap x ox D od) (h : Q (some (.ref D)) { s with toks := s.toks + 1 }) : wpAny (model prog w) A (getAttr? (.ref x) "__class__") Q E s := by
  have fd : findObj K D od "__class__" = some (.bind (.builtin "getset_descriptor.__get__") (.builtin "object.__class__")) := by
    obtain ⟨cd, hc, _⟩ := any_some hd
    unfold findObj
    rw [hc, Option.bind_some, ca, Option.bind_some]
    simp [cg, ct]
  obtain ⟨hp, g, d, t, os⟩ := s
  have ty := I.type (M := model prog w)
  have la := looks_findIn (M := model prog w) X ga
  have lg := looks_findIn (M := model prog w) X gg
  have lf := looks_find (M := model prog w) X I fd
  have sub : Looks (model prog w) hp (isInstance (.ref x) (.type "BaseException")) true := ty.andThen (looks_subIn X sb)
  have n0 : (false && onTheHeap (Value.builtin "BaseException.__getattribute__")) = false := rfl
  have n2 : (Value.builtin "BaseException.__getattribute__" == Value.builtin "object.__getattribute__") = false := by decide +kernel
  have n1 : (onTheHeap (Value.ref D) && Value.builtin "BaseException.__getattribute__" == Value.builtin "object.__getattribute__") = false := by rw [n2]; rfl
  unfold getAttr? getAttrBy? getAttrBy
  apply wpAny_bind
  apply wpAny_mkText
  apply wpAny_bind
  apply wpAny_attempt
  apply wpAny_holding
  apply wpAny_bind
  apply ty.at
  apply wpAny_bind
  apply la.at
  show wpAny _ _ (if (onTheHeap (Value.ref D) && Value.builtin "BaseException.__getattribute__" == Value.builtin "object.__getattribute__") = true then _ else _) _ _ _
  rw [n1, if_neg Bool.false_ne_true]
  unfold getAttrByItsOwn hookBefore
  apply wpAny_bind
  rw [if_pos (show onTheHeap (Value.ref D) = true from rfl)]
  apply lg.at
  apply wpAny_bind
  apply wpAny_attempt
  apply wpAny_holding
  unfold callGetattribute
  rw [n0, if_neg Bool.false_ne_true]
  unfold boundAndCalled
  rw [PySem.F.excAttr_ValueError.ga.bind (.ref x)]
  apply wpAny_bind
  apply wpAny_pure
  show wpAny _ _ (call (.builtin "BaseException.__getattribute__") [.ref x, .str "__class__" t]) _ _ _
  refine wpAny_call (codeAny_call_builtin PySem.F.excAttr_ValueError.ga.plain PySem.F.entry_bexc_ga ?_)
  refine @check_slot (model prog w) _ _ ⟨hp, g, d, t + 1, os⟩ "BaseException.__getattribute__" "BaseException" "__getattribute__" (.ref x) [.str "__class__" t] [] _ (by decide +kernel) (by decide +kernel) sub (PySem.F.args_bexc_ga (.ref x) (.str "__class__" t)) ?_
  unfold Builtin.«object.__getattribute__»
  refine wpAny_bind (wpAny_of_eq (a := ((Value.ref x : Value), [Value.str "__class__" t])) (by first | rfl | (simp only [slotArgs]; rfl)) ?_)
  apply wpAny_bind
  apply wpAny_pure
  apply wpAny_bind
  apply ty.at
  apply wpAny_bind
  apply lf.at
  show wpAny _ _ (holding [Value.builtin "object.__class__"] (call (.builtin "getset_descriptor.__get__") [.builtin "object.__class__", .ref x, .ref D]) >>= ret) _ _ _
  refine wpAny_bind (wpAny_holding (wpAny_call (class_get (s := ⟨hp, g, d, t + 1, os⟩) (ox := ox) (od := od) X I mo ?_)))
  apply wpAny_pure
  show wpAny _ _ (handedOut (.ref D)) _ _ _
  rw [handedOut_of (v := .ref D) rfl]
  first
    | exact wpAny_pure (wpAny_pure h)
    | exact wpAny_pure h
    | exact wpAny_pure (wpAny_bind (wpAny_pure (wpAny_pure h)))
end
end PySem.W
namespace L2.RV
open PySem PySem.Spec PyProof.Rows
theorem kitE {K : PySem.W.Frag} {x D : Addr} {ox : Obj} {od : Option Obj} (c : ExcC K D) : PySem.W.KitX K (.ref x) (.ref D) (fun h => PySem.W.InstAt h x ox D od) := by
  have isC : ∃ cd, PySem.W.clsIn K D = some cd := by
    obtain ⟨cd, hc, _⟩ := PySem.W.any_some c.hd
    exact ⟨cd, hc⟩
  refine ⟨fun _ _ _ I => I.type, fun M h X I => ?_, fun h tp dd its n sl X at_ => ?_, fun X I k => PySem.W.rvClass c.hg c.hk c.hs c.hd c.ha c.hn c.ht c.hm X I k⟩
  · obtain ⟨cd, hc⟩ := isC
    unfold PySem.W.clsIn at hc
    split at hc
    · rename_i ho
      intro A' Q' E' s' k q
      unfold isType loadHead
      exact wpAny_bind (wpAny_loadPart (k _ _ (X _ _ ho)) (wpAny_pure q))
    · cases hc
  · apply Bool.eq_false_iff.mpr
    intro q
    obtain rfl : D = tp := Value.ref.inj (beq_iff_eq.mp q)
    obtain ⟨cd, hc⟩ := isC
    unfold PySem.W.clsIn at hc
    split at hc
    · rename_i ho
      have z := (X _ _ ho).symm.trans at_
      cases z
    · cases hc
/-- an exception that is not raised stands at e: its class C, its fields fs (none: it has no dict) -/
def ErrAt (H : Hp) (e C : Addr) (fs : List (Str × V)) : Prop := (fs = [] ∧ H e = some (exo e C none)) ∨ ∃ d, H e = some (exo e C (some d)) ∧ H d = some (exd d fs)
theorem ErrAt.same {H H' : Hp} {e C : Addr} {fs : List (Str × V)} (x : ErrAt H e C fs) (s : Same H H') : ErrAt H' e C fs := by
  rcases x with ⟨n, x⟩ | ⟨d, x, y⟩
  · exact .inl ⟨n, s _ _ x⟩
  · exact .inr ⟨d, s _ _ x, s _ _ y⟩
section
variable {X : Cx} {pins : List (Addr × Obj)} {σ : L2.St} {H : Hp} {s : Shared} {e C : Addr} {fs : List (Str × V)}
theorem ErrAt.inst (x : ErrAt H e C fs) (I : Inv X pins σ H s) : ∃ ox od, PySem.W.InstAt s.heap e ox C od ∧ ∀ f, (od = none ∧ fs.lookup f = none) ∨ ∃ o r, od = some o ∧ PySem.W.lookIn f o = some r ∧ RelO (fs.lookup f) r := by
  rcases x with ⟨rfl, x⟩ | ⟨d, x, y⟩
  · obtain ⟨t1, ho⟩ := exo_at I.hok x
    exact ⟨_, none, ⟨ho, rfl, rfl, trivial⟩, fun f => .inl ⟨rfl, rfl⟩⟩
  · obtain ⟨t1, ho⟩ := exo_at I.hok x
    obtain ⟨mA, hns, rel⟩ := exd_at I.hok y
    have hns1 : s.heap.Ns1 d mA := hns
    obtain ⟨o, hd, hl⟩ := lookIn_ns hns1
    exact ⟨_, some o, ⟨ho, rfl, rfl, hd⟩, fun f => .inr ⟨o, _, rfl, hl f, rel f⟩⟩
end
/-- isinstance(e, c) of such an exception -/
def rIsX (K : PySem.W.Frag) : List V → Hp → VK → Prop := fun xs H Q => ∃ (e C : Addr) (fs : List (Str × V)) (c : V) (cv : Value) (b : Bool), xs = [.ref e, c] ∧ ErrAt H e C fs ∧ ExcC K C ∧ (∀ u, RelV c u → u = cv) ∧ PySem.W.kitOne K (.ref C) cv = some b ∧ Q (.bl b) H
theorem call_isX {X : Cx} : CallR X (.builtin "isinstance") (rIsX X.K) := by
  intro pins s σ H xs us Q I r h
  obtain ⟨e, C, fs, c, cv, b, rfl, at_, cl, hcv, k, q⟩ := h
  obtain ⟨u, u', rfl, ru, ru'⟩ := vals2 r
  cases ru
  obtain rfl := hcv _ ru'
  obtain ⟨ox, od, J, _⟩ := at_.inst I
  exact PySem.W.kia_one (kitE cl) I.kIn J k (fun z => nomatch z) fun tk => ⟨.bl b, H, I.kept (t' := tk) fun _ _ z => z, rfl, q⟩
/-- e.f of such an exception -/
def tXF (K : PySem.W.Frag) (f : Str) (te : TE) : TE := fun σ H Q => te σ H fun x H1 => ∃ (e C : Addr) (fs : List (Str × V)) (v : V), x = .ref e ∧ ErrAt H1 e C fs ∧ XfC K C ∧ PySem.W.findIn K (.ref C) f = some none ∧ fs.lookup f = some v ∧ Q v H1
theorem pe_xF {X : Cx} {e : Expr} {te : TE} {pos : Pos} {f : Str} (he : PE X e te) (hb : attributeBase e f X.env (eval e X.env) = eval e X.env := by rfl) : PE X (.Attribute e f pos) (tXF X.K f te) := by
  constructor
  intro pins s σ H Q I h
  apply attr_of hb
  refine thn (he.run pins s σ H _ I h) ?_
  rintro u s1 ⟨x, H1, I1, rx, e1, C, fs, v, rfl, at_, T, no, l, q⟩
  cases rx
  obtain ⟨ox, od, J, look⟩ := at_.inst I1
  rcases look f with ⟨_, z⟩ | ⟨o, r, rfl, hl, rel⟩
  · rw [l] at z
    cases z
  · obtain ⟨u, hu, ru⟩ := RelO.some_of (v := v) (o := r) (by rw [← l]; exact rel)
    exact HandSPX.exc_get I1.kIn J T.ga T.gg T.exC (PySem.W.findObj_own T.hdC no rfl (by rw [hl, hu])) (handed_of ru) ⟨v, H1, I1.tok _, ru, q⟩
end L2.RV
set_option Elab.async false
set_option linter.all false
set_option maxRecDepth 100000
set_option maxHeartbeats 4000000
/-! Own exceptions as values: they are made, by position and by name. -/
namespace L2.RV
open PySem PySem.Spec PyProof.Rows
/-- the promise of an __init__ that stores its parameters ff as fields of these names -/
def spErr (K : PySem.W.Frag) (ff : List Str) : Sp := fun vs H Q _ => ∃ (a C : Addr) (ws : List V), vs = .ref a :: ws ∧ ws.length = ff.length ∧ OexC K C ∧ (∀ f ∈ ff, PySem.W.findIn K (.ref C) f = some none) ∧ H a = some (exo a C none) ∧
  ∀ (H' : Hp) (fs : List (Str × V)), (∀ b o, b ≠ a → H b = some o → H' b = some o) → ErrAt H' a C fs → (∀ f v, (ff.zip ws).lookup f = some v → fs.lookup f = some v) → Q .non H'
/-- what is asked of the class and its __init__ -/
structure MkX (P : Program) (w : World) (K : PySem.W.Frag) (mg : Str → Option Value) (base : Heap) (k : Nat) (x : Str) (C fI : Addr) (fd : FuncData) (ff : List Str) : Prop where
  gC : mg x = some (.ref C)
  o : OexC K C
  no : ∀ f ∈ ff, PySem.W.findIn K (.ref C) f = some none
  iC : PySem.W.findIn K (.ref C) "__init__" = some (some (.ref fI))
  tI : PySem.W.typeIn K (.ref fI) = some (.type "function")
  F : FnOk P w K mg base CX0 k fI fd (("self" : Str) :: ff) (spErr K ff)
section
variable {X : Cx} {k : Nat} {fI C : Addr} {fd : FuncData} {ff ks : List Str} {x : Str}
/-- the call of the class: us by position, ws by the names ks; bound, they are as, the fields' values ts -/
theorem run_mkX {pins : List (Addr × Obj)} {σ : L2.St} {H : Hp} {s : Shared} {Q : VK} {us ws as : List Value} {ts : List V} (M : MkX X.prog X.w X.K X.mg X.base k x C fI fd ff) (hr : Room (k + 1) X.A)
    (to : ∀ (s : Shared) (u : Value), X.K.In s.heap → BindsTo s fd ⟨u :: us, ks.zip ws⟩ ((("self" : Str) :: ff).zip (u :: as))) (I : Inv X pins σ H s) (rt : Vals ts as) (l : ts.length = ff.length) (few : us.length ≤ 1000)
    (h : ∀ (a : Addr) (H3 : Hp) (fs : List (Str × V)), H a = none → Same H H3 → ErrAt H3 a C fs → (∀ f v, (ff.zip ts).lookup f = some v → fs.lookup f = some v) → Q (.ref a) H3) :
    wpAny (model X.prog X.w) X.A (call (.ref C) us (ks.zip ws)) (EP X pins σ Q) X.xe s := by
  obtain ⟨nm, q, N, bs, bm, sn, sub, ab, col, dd, k0, k1, k2, k3, k5, hC, hbm⟩ := M.o.cls
  obtain ⟨hp, gs, dr, tk, os⟩ := s
  have few2 : us.length ≤ sizeLine := by rw [sizeLine_eq]; omega
  have up : hp.objs.size ≤ hp.objs.size + 1 := Nat.le_succ _
  have fresh : H (hp.objs.size + 1) = none := I.hok.fresh up
  have keep : ∀ b o, hp.get? b = some o → ((hp.push (PySem.W.kdv_tup us)).push (PySem.HandSPX.excO C hp.objs.size)).get? b = some o := fun b o e => Heap.get?_push_of_some _ (Heap.get?_push_of_some _ e)
  have made : ((hp.push (PySem.W.kdv_tup us)).push (PySem.HandSPX.excO C hp.objs.size)).get? (hp.objs.size + 1) = some (PySem.HandSPX.excO C hp.objs.size) := by heap_get
  have J : Inv X pins σ (upd H (hp.objs.size + 1) (exo (hp.objs.size + 1) C none)) ⟨(hp.push (PySem.W.kdv_tup us)).push (PySem.HandSPX.excO C hp.objs.size), gs, dr, tk, os⟩ :=
    I.laid (t' := tk) (a := hp.objs.size + 1) (o := exo (hp.objs.size + 1) C none) (h' := (hp.push (PySem.W.kdv_tup us)).push (PySem.HandSPX.excO C hp.objs.size)) keep up (exo_ok made)
  have both : Vals (V.ref (hp.objs.size + 1) :: ts) (Value.ref (hp.objs.size + 1) :: as) := .cons rfl rt
  have asked : spErr X.K ff (V.ref (hp.objs.size + 1) :: ts) (upd H (hp.objs.size + 1) (exo (hp.objs.size + 1) C none)) (fun v H2 => v = .non ∧ Q (.ref (hp.objs.size + 1)) H2) E0 := by
    refine ⟨_, C, _, rfl, l, M.o, M.no, upd_same, fun H' fs sm at_ look => ⟨rfl, h _ H' fs fresh (fun b o z => ?_) at_ look⟩⟩
    have nb : b ≠ hp.objs.size + 1 := ne_of_none z fresh
    exact sm b o nb (by rw [upd_ne nb]; exact z)
  apply wpAny_call
  refine PySem.RVX.kwCall F.excBase_ValueError (fun Y => PySem.HandSPX.refsVE_contains Y bm hbm) (I.kIn _ _ hC) (PySem.W.looks_findIn I.kIn M.iC) (fun self => PySem.W.bind_fn I.kIn self M.tI) few2 ?_
  refine codeAny_mono (M.F.run _ X.stack _ _ ⟨Value.ref (hp.objs.size + 1) :: us, ks.zip ws⟩ (Value.ref (hp.objs.size + 1) :: as) _ _ E0 (hr.make C us (ks.zip ws)) (J.env0.make C us (ks.zip ws)) (to _ _ J.kIn) both asked) ?_
  intro r' s' hq
  match r', hq with
  | .error er, hq => exact hq.elim
  | .ok .next, hq => exact hq.elim
  | .ok .brk, hq => exact hq.elim
  | .ok .cont, hq => exact hq.elim
  | .ok (.ret u), hq =>
    obtain ⟨v, H2, J2, rv, ev, q2⟩ := J.after hq
    subst ev
    exact ⟨rv, ⟨V.ref (hp.objs.size + 1), H2, J2, rfl, q2⟩⟩
end
/-! ### the __init__ of one and of two fields -/
def args1 (f : Str) (p1 p2 : Pos) : Arguments := { posonlyargs := [], args := [{ arg := "self", annotation := none, pos := p1 }, { arg := f, annotation := none, pos := p2 }], vararg := none, kwonlyargs := [], kw_defaults := [], kwarg := none, defaults := [] }
def body1 (f : Str) (q1 q2 q3 q4 : Pos) : List Stmt := [.Assign [.Attribute (.Name "self" q1) f q2] (.Name f q3) q4]
def scope1 (f : Str) : Scope := { kind := .function, names := [("self", .local), (f, .local)], isGenerator := false, isCoroutine := false, more := [] }
def args2 (f g : Str) (p1 p2 p3 : Pos) : Arguments := { posonlyargs := [], args := [{ arg := "self", annotation := none, pos := p1 }, { arg := f, annotation := none, pos := p2 }, { arg := g, annotation := none, pos := p3 }], vararg := none, kwonlyargs := [], kw_defaults := [], kwarg := none, defaults := [] }
def body2 (f g : Str) (q1 q2 q3 q4 r1 r2 r3 r4 : Pos) : List Stmt := [.Assign [.Attribute (.Name "self" q1) f q2] (.Name f q3) q4, .Assign [.Attribute (.Name "self" r1) g r2] (.Name g r3) r4]
def scope2 (f g : Str) : Scope := { kind := .function, names := [("self", .local), (f, .local), (g, .local)], isGenerator := false, isCoroutine := false, more := [] }
theorem look1 {f g : Str} {v : V} (h : f = g) : ([(g, v)] : List (Str × V)).lookup f = some v := by
  subst h
  simp [List.lookup]
section
variable {P : Program} {w : World} {K : PySem.W.Frag} {mg : Str → Option Value} {base : Heap} {qual f g : Str} {fI : Addr} {fd : FuncData} {p1 p2 p3 q1 q2 q3 q4 r1 r2 r3 r4 : Pos}
theorem ok_init1 (F : FunD K "__init__" qual (args1 f p1 p2) (body1 f q1 q2 q3 q4) (scope1 f) [] [] fI fd) (S : FnScope ["self", f] ["self", f] (scope1 f)) (v0 : (scope1 f).names.lookup ("self" : Str) = some .local) (v1 : (scope1 f).names.lookup f = some .local)
    (d1 : (f == ("__debug__" : Str)) = false) (c1 : (f == ("__classdict__" : Str)) = false) (hs : ∀ env, swapsWith (.Name f q3) (some (.Attribute (.Name "self" q1) f q2)) q4.line env = pure false) :
    FnOk P w K mg base CX0 1 fI fd ["self", f] (spErr K [f]) := by
  refine F.ok S (fun vs H Q E h => ?_) (fun cdv A outer s H vs Q E hr h => ?_)
  · obtain ⟨a, C, ws, rfl, l, _⟩ := h
    exact congrArg Nat.succ l
  · obtain ⟨a, C, ws, rfl, l, T, no, at_, k⟩ := h
    obtain ⟨v, rfl⟩ : ∃ v, ws = [v] := List.length_eq_one_iff.mp l
    refine ⟨_, PSs.nox (pss_one (ps_ost (pe_var (i := 0) rfl (.inl v0)) (pe_var (i := 1) rfl (.inl v1) d1 c1) (hs _))), ?_⟩
    refine ⟨v, rfl, .ref a, rfl, a, C, rfl, T, no f (List.mem_singleton.mpr rfl), .inl ⟨at_, fun dx nd ne => ?_⟩⟩
    refine k _ [(f, v)] (fun b o nb z => ?_) (.inr ⟨dx, upd_same, by rw [upd_ne ne, upd_same]⟩) (fun f' v' z => z)
    rw [upd_ne nb, upd_ne (ne_of_none z nd)]
    exact z
theorem ok_init2 (F : FunD K "__init__" qual (args2 f g p1 p2 p3) (body2 f g q1 q2 q3 q4 r1 r2 r3 r4) (scope2 f g) [] [] fI fd) (S : FnScope ["self", f, g] ["self", f, g] (scope2 f g)) (ng : f ≠ g) (v0 : (scope2 f g).names.lookup ("self" : Str) = some .local)
    (v1 : (scope2 f g).names.lookup f = some .local) (v2 : (scope2 f g).names.lookup g = some .local) (d1 : (f == ("__debug__" : Str)) = false) (c1 : (f == ("__classdict__" : Str)) = false) (d2 : (g == ("__debug__" : Str)) = false) (c2 : (g == ("__classdict__" : Str)) = false)
    (h1 : ∀ env, swapsWith (.Name f q3) (some (.Attribute (.Name "self" q1) f q2)) q4.line env = pure false) (h2 : ∀ env, swapsWith (.Name g r3) (some (.Attribute (.Name "self" r1) g r2)) r4.line env = pure false) :
    FnOk P w K mg base CX0 1 fI fd ["self", f, g] (spErr K [f, g]) := by
  refine F.ok S (fun vs H Q E h => ?_) (fun cdv A outer s H vs Q E hr h => ?_)
  · obtain ⟨a, C, ws, rfl, l, _⟩ := h
    exact congrArg Nat.succ l
  · obtain ⟨a, C, ws, rfl, l, T, no, at_, k⟩ := h
    obtain ⟨v, u, rfl⟩ : ∃ v u, ws = [v, u] := by
      match ws, l with
      | [v, u], _ => exact ⟨v, u, rfl⟩
    refine ⟨_, PSs.nox (pss_cons (ps_ost (pe_var (i := 0) rfl (.inl v0)) (pe_var (i := 1) rfl (.inl v1) d1 c1) (h1 _)) (pss_one (ps_ost (pe_var (i := 0) rfl (.inl v0)) (pe_var (i := 2) rfl (.inl v2) d2 c2) (h2 _)))), ?_⟩
    refine ⟨v, rfl, .ref a, rfl, a, C, rfl, T, no f (by simp), .inl ⟨at_, fun dx nd ne => ?_⟩⟩
    refine ⟨u, rfl, .ref a, rfl, a, C, rfl, T, no g (by simp), .inr ⟨dx, [(f, v)], upd_same, by rw [upd_ne ne, upd_same], by show 1 ≤ 900; decide, ?_⟩⟩
    refine k _ [(g, u), (f, v)] (fun b o nb z => ?_) (.inr ⟨dx, by rw [upd_ne ne.symm, upd_same], upd_same⟩) (fun f' v' z => ?_)
    · have nbd := ne_of_none z nd
      rw [upd_ne nbd, upd_ne nb, upd_ne nbd]
      exact z
    · have z' : List.lookup f' [(f, v), (g, u)] = some v' := z
      rw [lookup_put] at z'
      rw [lookup_put]
      by_cases e1 : f' = f
      · rw [if_pos e1] at z'
        cases z'
        rw [if_neg (fun e2 => ng (e1.symm.trans e2)), e1]
        exact look1 rfl
      · rw [if_neg e1, lookup_put] at z'
        by_cases e2 : f' = g
        · rw [if_pos e2] at z' ⊢
          exact z'
        · rw [if_neg e2] at z'
          cases z'
end
end L2.RV
set_option Elab.async false
set_option linter.all false
set_option maxRecDepth 100000
set_option maxHeartbeats 4000000
/-! repr of data: what stands in the heap as data, also in dicts. -/
namespace L2.RV
open PySem PySem.Spec PyProof.Rows
/-- all that was tracked is as it was, but at p -/
def Keep (p : Addr) (H H' : Hp) : Prop := ∀ b o, b ≠ p → H b = some o → H' b = some o
theorem Keep.refl {p : Addr} {H : Hp} : Keep p H H := fun _ _ _ h => h
theorem Keep.trans {p : Addr} {H H1 H2 : Hp} (a : Keep p H H1) (b : Keep p H1 H2) : Keep p H H2 := fun c o n h => b c o n (a c o n h)
theorem Keep.of {p : Addr} {H H' : Hp} (s : Same H H') : Keep p H H' := fun b o _ h => s b o h
theorem Keep.upd {p : Addr} {H : Hp} {o : HO} : Keep p H (upd H p o) := fun b u n h => by rw [upd_ne n]; exact h
theorem same_new {H : Hp} {a : Addr} {o : HO} (h : H a = none) : Same H (upd H a o) := fun b u z => by rw [upd_ne (ne_of_none z h)]; exact z
/-- v is the datum d, now and as long as what is tracked stands, but at p -/
def Rds (K : PySem.W.Frag) (p : Addr) (H : Hp) (v : V) (d : PyData) : Prop := ∀ (X : Cx) (pins : List (Addr × Obj)) (σ : L2.St) (H' : Hp) (s : Shared) (u : Value), X.K = K → Keep p H H' → Inv X pins σ H' s → RelV v u → ∃ as, Reads s.heap u d as ∧ sysModules ∉ as
theorem Rds.keep {K : PySem.W.Frag} {p : Addr} {H H' : Hp} {v : V} {d : PyData} (r : Rds K p H v d) (s : Keep p H H') : Rds K p H' v d := fun X pins σ H2 sh u e s2 I ru => r X pins σ H2 sh u e (s.trans s2) I ru
theorem Rds.same {K : PySem.W.Frag} {p : Addr} {H H' : Hp} {v : V} {d : PyData} (r : Rds K p H v d) (s : Same H H') : Rds K p H' v d := r.keep (.of s)
theorem rds_non {K : PySem.W.Frag} {p : Addr} {H : Hp} : Rds K p H .non .none := fun X pins σ H' s u _ _ _ r => by
  cases r
  exact ⟨_, .none, by simp⟩
theorem rds_bl {K : PySem.W.Frag} {p : Addr} {H : Hp} (b : Bool) : Rds K p H (.bl b) (.bool b) := fun X pins σ H' s u _ _ _ r => by
  cases r
  exact ⟨_, .bool b, by simp⟩
theorem rds_int {K : PySem.W.Frag} {p : Addr} {H : Hp} (i : Int) : Rds K p H (.int i) (.int i) := fun X pins σ H' s u _ _ _ r => by
  obtain ⟨t, rfl⟩ := r
  exact ⟨_, .int i t, by simp⟩
theorem rds_str {K : PySem.W.Frag} {p : Addr} {H : Hp} (x : Str) : Rds K p H (.str x) (.str x) := fun X pins σ H' s u _ _ _ r => by
  obtain ⟨t, rfl⟩ := r
  exact ⟨_, .str x t, by simp⟩
inductive RdsA (K : PySem.W.Frag) (p : Addr) (H : Hp) : List V → List PyData → Prop
  | nil : RdsA K p H [] []
  | cons {v : V} {vs : List V} {d : PyData} {ds : List PyData} : Rds K p H v d → RdsA K p H vs ds → RdsA K p H (v :: vs) (d :: ds)
theorem RdsA.reads {K : PySem.W.Frag} {p : Addr} {H : Hp} {X : Cx} {pins : List (Addr × Obj)} {σ : L2.St} {H' : Hp} {s : Shared} (e : X.K = K) (sm : Keep p H H') (I : Inv X pins σ H' s) : ∀ {vs : List V} {ds : List PyData} {us : List Value}, RdsA K p H vs ds → Vals vs us → ∃ as, ReadsAll s.heap us ds as ∧ sysModules ∉ as
  | _, _, _, .nil, .nil => ⟨_, .nil, by simp⟩
  | _, _, _, .cons h1 h2, .cons r1 r2 => by
    obtain ⟨as, q1, n1⟩ := h1 X pins σ H' s _ e sm I r1
    obtain ⟨bs, q2, n2⟩ := RdsA.reads e sm I h2 r2
    exact ⟨_, .cons q1 q2, fun z => (List.mem_append.mp z).elim n1 n2⟩
theorem rds_lst {K : PySem.W.Frag} {p : Addr} {H : Hp} {a : Addr} {xs : List V} {ds : List PyData} (h : H a = some (.lst xs)) (n : a ≠ sysModules) (np : a ≠ p) (r : RdsA K p H xs ds) : Rds K p H (.ref a) (.list ds) := fun X pins σ H' s u e sm I ru => by
  cases ru
  obtain ⟨its, rv, ⟨o, m, ho, hc, _, hd⟩, _⟩ := I.list (SqL.of (sm _ _ np h))
  obtain ⟨as, q, na⟩ := r.reads e sm I rv
  exact ⟨_, .list ho hc hd q, fun z => (List.mem_cons.mp z).elim (fun y => n y.symm) na⟩
theorem rds_tup {K : PySem.W.Frag} {p : Addr} {H : Hp} {a : Addr} {xs : List V} {ds : List PyData} (h : H a = some (.tup xs)) (np : a ≠ p) (r : RdsA K p H xs ds) : Rds K p H (.ref a) (.tuple ds) := fun X pins σ H' s u e sm I ru => by
  cases ru
  obtain ⟨its, rv, ⟨o, ho, hc, m, hd⟩, _⟩ := I.tuple (SqT.of (sm _ _ np h))
  obtain ⟨as, q, na⟩ := r.reads e sm I rv
  exact ⟨_, .tuple ho hc hd q, na⟩
/-- a key of a dict as data -/
def keyD : Key → PyData
  | .inl i => .int i
  | .inr x => .str x
theorem key_reads {h : Heap} {k : Key} {v : Value} (e : keyIs k v = true) : Reads h v (keyD k) [] := by
  rcases keyIs_shape e with ⟨i, t, rfl, rfl⟩ | ⟨x, t, rfl, rfl⟩
  · exact .int i t
  · exact .str x t
theorem pairs_reads {P : Program} {w : World} {h : Heap} : ∀ {es : List DictEntry} {vs : List (Key × Value)}, Pairs (mixKind P w) es vs → ReadsAll h (es.map (·.key)) (vs.map fun p => keyD p.1) [] ∧ es.map (·.val) = vs.map (·.2)
  | _, _, .nil => ⟨.nil, rfl⟩
  | _, _, .cons k e r => by
    obtain ⟨q1, q2⟩ := pairs_reads (h := h) r
    refine ⟨?_, ?_⟩
    · exact .cons (key_reads k) q1
    · rw [List.map_cons, List.map_cons, e, q2]
theorem kv_vals : ∀ {kvs : List (Key × V)} {vs : List (Key × Value)}, KV kvs vs → Vals (kvs.map (·.2)) (vs.map (·.2)) ∧ kvs.map (·.1) = vs.map (·.1)
  | _, _, .nil => ⟨.nil, rfl⟩
  | _, _, .cons h r => by
    obtain ⟨q1, q2⟩ := kv_vals r
    refine ⟨.cons h.2 q1, ?_⟩
    rw [List.map_cons, List.map_cons, h.1, q2]
theorem rds_dct {K : PySem.W.Frag} {p : Addr} {H : Hp} {a : Addr} {kvs : List (Key × V)} {ds : List PyData} (h : H a = some (.dK kvs)) (np : a ≠ p) (r : RdsA K p H (kvs.map (·.2)) ds) : Rds K p H (.ref a) (.dict ((kvs.map fun p => keyD p.1).zip ds)) := fun X pins σ H' s u e sm I ru => by
  cases ru
  obtain ⟨_, nm, vs, rel, o, es, ep, ho, ex, hd, _, hp, _⟩ := dk_of I.hok (sm _ _ np h)
  obtain ⟨rv, ek⟩ := kv_vals rel
  obtain ⟨q1, q2⟩ := pairs_reads (h := s.heap) hp
  obtain ⟨as, q, na⟩ := r.reads e sm I rv
  have l : (kvs.map fun p => keyD p.1).length = ds.length := by
    have l1 : ∀ {vs : List V} {ds : List PyData}, RdsA K p H vs ds → vs.length = ds.length := fun {vs ds} z => by
      induction z with
      | nil => rfl
      | cons _ _ ih => exact congrArg Nat.succ ih
    have l2 := l1 r
    rw [List.length_map] at l2 ⊢
    exact l2
  have ek2 : (kvs.map fun p => keyD p.1) = vs.map fun p => keyD p.1 := by
    have z := congrArg (List.map keyD) ek
    rw [List.map_map, List.map_map] at z
    exact z
  refine ⟨_, Reads.dict (as := []) (bs := as) ho ex.1 hd ?_ ?_, ?_⟩
  · rw [List.map_fst_zip (Nat.le_of_eq l), ek2]
    exact q1
  · rw [List.map_snd_zip (Nat.le_of_eq l.symm), q2]
    exact q
  · intro z
    have na2 : sysModules ≠ a := fun y => by
      rw [← y] at nm
      exact absurd nm (by decide)
    rcases List.mem_cons.mp z with y | y
    · exact na2 y
    · exact na y
/-- repr(x) of data -/
def rRepr (K : PySem.W.Frag) : List V → Hp → VK → Prop := fun xs H Q => ∃ p v d, xs = [v] ∧ Rds K p H v d ∧ d.showable = true ∧ d.depth ≤ 60 ∧ d.shown.length ≤ sizeLine ∧ Q (.str d.shown) H
theorem call_repr {X : Cx} (hg : X.A.guards = some []) (hu : X.A.units + 64 < cLine) : CallR X (.builtin "repr") (rRepr X.K) := by
  intro pins s σ H xs us Q I r h
  obtain ⟨p, v, d, rfl, rd, hs, hd, hz, q⟩ := h
  obtain ⟨u, rfl, ru⟩ := vals1 r
  obtain ⟨as, rds, nm⟩ := rd X pins σ H s u rfl Keep.refl I ru
  have fin : ∀ (h' : Heap) (t : Tok) (tk : Nat), (∀ b o, s.heap.get? b = some o → h'.get? b = some o) → EP X pins σ Q (.str d.shown t) { s with heap := h', toks := tk } := fun h' t tk k => ⟨.str d.shown, H, I.kept k, ⟨t, rfl⟩, q⟩
  have same : ∀ (t : Tok) (tk : Nat), EP X pins σ Q (.str d.shown t) { s with toks := tk } := fun t tk => fin s.heap t tk fun _ _ e => e
  have big : ∀ {a : Addr}, Reads s.heap (.ref a) d as → wpAny (model X.prog X.w) X.A (call (.builtin "repr") [.ref a]) (EP X pins σ Q) X.xe s := fun {a} rr => by
    refine repr_of_reads' (h₀ := s.heap) rr hs (fun _ => nm) hg ?_ (fun _ _ e => e) (fun h' u tk k => fin h' u tk k) hz
    have : d.depth + 1 ≤ 64 := Nat.le_trans (Nat.succ_le_succ hd) (by decide)
    omega
  cases rds with
  | none => exact PySem.P.repr_of_none (by
      have z := same s.toks (s.toks + 1)
      simpa only [PyData.shown] using z)
  | bool b => exact PySem.P.repr_of_bool (by
      have z := same s.toks (s.toks + 1)
      simpa only [PyData.shown] using z)
  | int i t => exact PySem.P.repr_of_int (by simpa [PyData.showable] using hs) (by
      have z := same s.toks (s.toks + 1)
      simpa only [PyData.shown] using z)
  | str x t => exact PySem.P.repr_of_str (by
      have z := same s.toks (s.toks + 1)
      simpa only [PyData.shown] using z) (by simpa only [PyData.shown] using hz)
  | list h1 h2 h3 h4 => exact big (.list h1 h2 h3 h4)
  | tuple h1 h2 h3 h4 => exact big (.tuple h1 h2 h3 h4)
  | dict h1 h2 h3 h4 h5 => exact big (.dict h1 h2 h3 h4 h5)
/-- a written list: its place is not that of sys.modules -/
def tLstN (t : TA) : TE := fun σ H Q => t σ H fun xs H1 => xs.length ≤ sizeLine ∧ ∀ p, H1 p = none → p ≠ sysModules → Q (.ref p) (upd H1 p (.lst xs))
theorem pe_lstN {X : Cx} {es : List Expr} {t : TA} {pos : Pos} (h : PA X es t) : PE X (.List es pos) (tLstN t) := by
  constructor
  intro pins s σ H Q I hq
  apply wpAny_List_spliced
  refine thn (h.run pos pins s σ H _ I hq) ?_
  rintro us s1 ⟨xs, H1, I1, r, z, q⟩
  refine ⟨by rw [← r.length]; exact z, ?_⟩
  have fresh : H1 s1.heap.objs.size = none := I1.hok.fresh (Nat.le_refl _)
  exact ⟨.ref s1.heap.objs.size, upd H1 s1.heap.objs.size (.lst xs), I1.laid (t' := s1.toks) (fun b u e => Heap.get?_push_of_some _ e) (Nat.le_refl _) ⟨z, us, 0, r, Heap.get?_push_size _ rfl⟩, rfl, q _ fresh (Nat.ne_of_gt I1.big)⟩
end L2.RV
set_option Elab.async false
set_option linter.all false
set_option maxRecDepth 100000
set_option maxHeartbeats 4000000
/-! What a law's proof asks of the heap behind the top, as one Bool. -/
namespace L2.RV
open PySem PySem.Spec PyProof.Rows
/-! ### the hook -/
def obsR (chk : PySem.W.Frag → Bool) (fn : List He.DefD) (K : PySem.W.Frag) : He.AlD := (chk K && fn.all fun d => d.ok K, fn.map fun d => He.fnW K d.at_)
def SaysR (chk : PySem.W.Frag → Bool) (fn : List He.DefD) (K : PySem.W.Frag) : Prop := obsR chk fn K = He.valD fn
def obsRG (n : Nat) (chk : PySem.W.Frag → Bool) (fn : List He.DefD) (g : Addr → Option Obj) : He.AlD := obsR chk fn (He.frG g (He.asD g n))
def hookR (n : Nat) (chk : PySem.W.Frag → Bool) (fn : List He.DefD) : PySem.W.Hook where
  α := He.AlD
  obs := fun s => obsRG n chk fn s.heap.get?
  val := fun _ => He.valD fn
  says := fun _ h => ∃ K : PySem.W.Frag, K.In h ∧ SaysR chk fn K
  of := fun _ _ e => ⟨_, He.frG_in, e⟩
  keeps := fun _ _ _ ⟨K, hK, c⟩ k => ⟨K, PySem.W.Frag.In.keeps hK k, c⟩
theorem obsRG_eq {n : Nat} {chk : PySem.W.Frag → Bool} {fn : List He.DefD} {g : Addr → Option Obj} {s : Shared} (h : ∀ a, g a = s.heap.get? a) : obsRG n chk fn g = (hookR n chk fn).obs s := by
  have e : g = s.heap.get? := funext h
  rw [e] <;> rfl
section
variable {chk : PySem.W.Frag → Bool} {fn : List He.DefD} {K : PySem.W.Frag}
theorem SaysR.look (c : SaysR chk fn K) : chk K = true := (Bool.and_eq_true_iff.mp (congrArg (fun z : He.AlD => z.1) c)).1
theorem SaysR.def_ (c : SaysR chk fn K) (i : Nat) {d : He.DefD} (h : fn[i]? = some d := by rfl) : ∃ fd, FunD K d.name d.qual d.params d.body d.scope (d.dvs K) (d.kws K) (He.fAd K d.at_) fd := by
  have all := (Bool.and_eq_true_iff.mp (congrArg (fun z : He.AlD => z.1) c)).2
  have same : fn.map (fun d => He.fnW K d.at_) = fn.map He.DefD.val := congrArg (fun z : He.AlD => z.2) c
  have at_ := congrArg (fun l => l[i]?) same
  simp only [List.getElem?_map, h, Option.map_some, Option.some.injEq] at at_
  exact He.DefD.funD at_ (List.all_eq_true.mp all d (List.mem_of_getElem? h))
end
/-! ### an own exception class -/
def eqOO (a b : Option (Option Value)) : Bool := decide (a = b)
def oexB (K : PySem.W.Frag) (C : Addr) : Bool := match K.lookup C with
  | some ⟨.type c, _, .cls cd, sl⟩ => (match cd.mro, sl.toList with
    | .ref C' :: bm, [_, _, _, _, some (.builtin n), _] => decide (c = "type") && (decide (C' = C) && (decide (n = "ValueError.__new__") && (!cd.hasDel && (cd.hasDict && PySem.HandSPX.refsVE bm))))
    | _, _ => false)
  | _ => false
def clsB (K : PySem.W.Frag) (C : Addr) : Bool := oexB K C && (eqOO (PySem.W.findIn K (.ref C) "__setattr__") (some (some (.builtin "object.__setattr__"))) && (decide (PySem.W.subIn K (.ref C) (.type "BaseException") = some true) &&
  (decide (PySem.W.typeIn K (.ref C) = some (.type "type")) && (PySem.W.keepIn K (.ref C) && (eqOO (PySem.W.findIn K (.ref C) "__getattribute__") (some (some (.builtin "BaseException.__getattribute__"))) && (eqOO (PySem.W.findIn K (.ref C) "__getattr__") (some none) &&
  (PySem.W.hasDictIn K C && (eqOO (PySem.W.findIn K (.ref C) "__class__") (some (some (.builtin "object.__class__"))) && (eqOO (PySem.W.specialIn K (.builtin "object.__class__") "__get__") (some (some (.builtin "getset_descriptor.__get__"))) &&
  (decide (PySem.W.takesIn K (.builtin "object.__class__") = some true) && decide (PySem.W.mroIn K C (.type "object") = some true)))))))))))
theorem ba2 {a b : Bool} (h : (a && b) = true) : a = true ∧ b = true := Bool.and_eq_true_iff.mp h
theorem oexB_ok {K : PySem.W.Frag} {C : Addr} (h : oexB K C = true) : ∃ nm q N bs bm sn sub ab col dd k0 k1 k2 k3 k5, K.lookup C = some (excClassObj nm q C N bs bm true sn sub ab col dd k0 k1 k2 k3 k5 "ValueError.__new__") ∧ PySem.HandSPX.refsVE bm = true := by
  unfold oexB at h
  split at h
  · rename_i c dd cd sl look
    split at h
    · rename_i C' bm k0 k1 k2 k3 n k5 hm hs
      obtain ⟨h1, h⟩ := ba2 h
      obtain ⟨h2, h⟩ := ba2 h
      obtain ⟨h3, h⟩ := ba2 h
      obtain ⟨h4, h⟩ := ba2 h
      obtain ⟨h5, h6⟩ := ba2 h
      obtain rfl := of_decide_eq_true h1
      obtain rfl := of_decide_eq_true h2
      obtain rfl := of_decide_eq_true h3
      obtain ⟨nm, bs, mro, ns, qn, hd, sn, sub, ab, col, del⟩ := cd
      dsimp only at hm h4 h5
      subst hm
      have h4' : del = false := by simpa using h4
      subst h4' h5
      obtain ⟨l⟩ := sl
      have hs' : l = [k0, k1, k2, k3, some (.builtin "ValueError.__new__"), k5] := hs
      subst hs'
      exact ⟨nm, qn, ns, bs, bm, sn, sub, ab, col, dd, k0, k1, k2, k3, k5, look, h6⟩
    · cases h
  · cases h
theorem clsB_ok {K : PySem.W.Frag} {C : Addr} (h : clsB K C = true) : OexC K C ∧ ExcC K C ∧ XfC K C := by
  obtain ⟨a0, h⟩ := ba2 h
  obtain ⟨a1, h⟩ := ba2 h
  obtain ⟨a2, h⟩ := ba2 h
  obtain ⟨a3, h⟩ := ba2 h
  obtain ⟨a4, h⟩ := ba2 h
  obtain ⟨a5, h⟩ := ba2 h
  obtain ⟨a6, h⟩ := ba2 h
  obtain ⟨a7, h⟩ := ba2 h
  obtain ⟨a8, h⟩ := ba2 h
  obtain ⟨a9, h⟩ := ba2 h
  obtain ⟨a10, a11⟩ := ba2 h
  exact ⟨⟨oexB_ok a0, of_decide_eq_true a1, of_decide_eq_true a2, of_decide_eq_true a3, a4⟩, ⟨of_decide_eq_true a5, of_decide_eq_true a6, of_decide_eq_true a2, a7, of_decide_eq_true a8, of_decide_eq_true a9, of_decide_eq_true a10, of_decide_eq_true a11⟩,
    ⟨of_decide_eq_true a5, of_decide_eq_true a6, of_decide_eq_true a2, a7⟩⟩
/-- the class x has an __init__ of its own with the fields ff -/
def iniB (K : PySem.W.Frag) (x : Str) (ff : List Str) : Bool := eqOO (PySem.W.findIn K (.ref (He.ga K x)) "__init__") (some (some (.ref (He.fAd K (x, some "__init__"))))) && (decide (PySem.W.typeIn K (.ref (He.fAd K (x, some "__init__"))) = some (.type "function")) &&
  ff.all fun f => eqOO (PySem.W.findIn K (.ref (He.ga K x)) f) (some none))
/-- the module's name x stands for an object -/
def gloB (K : PySem.W.Frag) (x : Str) : Bool := eqOO (PySem.W.nsIn K mainGlobals x) (some (some (.ref (He.ga K x))))
def freeB (K : PySem.W.Frag) (x : Str) : Bool := eqOO (PySem.W.nsIn K mainGlobals x) (some none)
section
variable {K : PySem.W.Frag} {h : Heap} {mg : Str → Option Value} {x : Str} {ff : List Str}
theorem gloB_ok (X : K.In h) (G : h.Ns mainGlobals mg) (c : gloB K x = true) : mg x = some (.ref (He.ga K x)) := PySem.W.mg_of X G (of_decide_eq_true c)
theorem freeB_ok (X : K.In h) (G : h.Ns mainGlobals mg) (c : freeB K x = true) : mg x = none := PySem.W.mg_none_of X G (of_decide_eq_true c)
theorem iniB_ok (c : iniB K x ff = true) : PySem.W.findIn K (.ref (He.ga K x)) "__init__" = some (some (.ref (He.fAd K (x, some "__init__")))) ∧ PySem.W.typeIn K (.ref (He.fAd K (x, some "__init__"))) = some (.type "function") ∧ ∀ f ∈ ff, PySem.W.findIn K (.ref (He.ga K x)) f = some none := by
  obtain ⟨a, c⟩ := ba2 c
  obtain ⟨b, c⟩ := ba2 c
  exact ⟨of_decide_eq_true a, of_decide_eq_true b, fun f m => of_decide_eq_true (List.all_eq_true.mp c f m)⟩
end
end L2.RV
set_option Elab.async false
set_option linter.all false
set_option maxRecDepth 100000
set_option maxHeartbeats 4000000
/-! One rule for each sign, whatever stands beside it. -/
namespace L2.RV
open PySem PySem.Spec PyProof.Rows
section
variable {X : Cx}
def rAddS : R2 := fun x y H Q => ∃ i j, x = .str i ∧ y = .str j ∧ i.length + j.length ≤ sizeLine ∧ Q (.str (i ++ j)) H
def rPlus : R2 := fun x y H Q => rI0 (fun i j => .int (i + j)) x y H Q ∨ (rCat x y H Q ∨ rAddS x y H Q)
theorem op_plus : OpR X (binaryOp .Add) rPlus := op_add.or (op_cat.or op_add_str)
/-- a text times a written number -/
def rMulS : R2 := fun x y H Q => ∃ z n, x = .str z ∧ y = .int n ∧ MulOk z n ∧ Q (.str (Txt.mul z n)) H
theorem op_mulS : OpR X (binaryOp .Mult) rMulS := by
  intro pins s σ H x y v u Q I rx ry h
  obtain ⟨z, n, rfl, rfl, ok, q⟩ := h
  obtain ⟨t, rfl⟩ := rx
  obtain ⟨t', rfl⟩ := ry
  exact PySem.SB.mul ok fun u k => ⟨.str _, H, I.tok _, ⟨_, rfl⟩, q⟩
def rTimes : R2 := fun x y H Q => rI CMul (fun i j => .int (i * j)) x y H Q ∨ (rRep x y H Q ∨ rMulS x y H Q)
theorem op_times : OpR X (binaryOp .Mult) rTimes := op_mul.or (op_rep.or op_mulS)
def rSame (K : PySem.W.Frag) : R2 := fun x y H Q => rEq x y H Q ∨ rEqD K x y H Q
def rDiff (K : PySem.W.Frag) : R2 := fun x y H Q => rNe x y H Q ∨ rNeD K x y H Q
theorem op_same (hu : X.A.units + 64 < cLine) : OpR X (compareOp .Eq) (rSame X.K) := op_eq.or (op_eqD hu)
theorem op_diff (hu : X.A.units + 64 < cLine) : OpR X (compareOp .NotEq) (rDiff X.K) := op_ne.or (op_neD hu)
end
/-! ### equal data -/
theorem dpA_str {K : PySem.W.Frag} {H : Hp} : ∀ xs : List Str, DpAll K H (xs.map V.str) (xs.map PyData.str)
  | [] => .nil
  | x :: xs => .cons (.str x) (dpA_str xs)
theorem dpA_int {K : PySem.W.Frag} {H : Hp} : ∀ xs : List Int, DpAll K H (xs.map V.int) (xs.map PyData.int)
  | [] => .nil
  | x :: xs => .cons (.int x) (dpA_int xs)
theorem lay_str : ∀ xs : List Str, (xs.all fun x => PyData.strOk x) = true → PyData.canLayAll0 (xs.map PyData.str) = true
  | [], _ => by simp [PyData.canLayAll0]
  | x :: xs, h => by
    obtain ⟨h1, h2⟩ := Bool.and_eq_true_iff.mp (show (PyData.strOk x && xs.all fun x => PyData.strOk x) = true from h)
    have z := lay_str xs h2
    simp [PyData.canLayAll0, PyData.canLay0, z, h1]
theorem lay_int : ∀ xs : List Int, PyData.canLayAll0 (xs.map PyData.int) = true
  | [] => by simp [PyData.canLayAll0]
  | x :: xs => by
    have z := lay_int xs
    simp [PyData.canLayAll0, PyData.canLay0, z]
theorem deep_str : ∀ xs : List Str, PyData.depthAll (xs.map PyData.str) ≤ 1
  | [] => by simp [PyData.depthAll]
  | x :: xs => by
    have z := deep_str xs
    simp only [List.map_cons, PyData.depthAll, PyData.depth]
    omega
theorem deep_int : ∀ xs : List Int, PyData.depthAll (xs.map PyData.int) ≤ 1
  | [] => by simp [PyData.depthAll]
  | x :: xs => by
    have z := deep_int xs
    simp only [List.map_cons, PyData.depthAll, PyData.depth]
    omega
theorem shaped_str {xs : List Str} (h : (xs.all fun x => PyData.strOk x) = true) : SeqAt.shaped (.list (xs.map PyData.str)) = true := by
  have z := deep_str xs
  have e : PyData.canLay0 (.list (xs.map PyData.str)) = true := by simp only [PyData.canLay0]; exact lay_str xs h
  have d : (PyData.list (xs.map PyData.str)).depth ≤ 64 := by simp only [PyData.depth]; omega
  unfold SeqAt.shaped
  rw [e, decide_eq_true d]
  rfl
theorem shaped_int (xs : List Int) : SeqAt.shaped (.list (xs.map PyData.int)) = true := by
  have z := deep_int xs
  have e : PyData.canLay0 (.list (xs.map PyData.int)) = true := by simp only [PyData.canLay0]; exact lay_int xs
  have d : (PyData.list (xs.map PyData.int)).depth ≤ 64 := by simp only [PyData.depth]; omega
  unfold SeqAt.shaped
  rw [e, decide_eq_true d]
  rfl
theorem same_data {d : PyData} (h : SeqAt.shaped d = true) : PyData.eqv d d = true := SeqAt.eqv_refl d (SeqAt.canLay_of_shaped h)
end L2.RV
set_option Elab.async false
set_option linter.all false
set_option maxRecDepth 100000
set_option maxHeartbeats 4000000
/-! Defs and error classes of the text, bundled for their callers. -/
namespace L2.RV
open PySem PySem.Spec PyProof.Rows
/-- the module's def x, with its promise -/
structure Def (P : Program) (w : World) (K : PySem.W.Frag) (mg : Str → Option Value) (base : Heap) (x : Str) (k : Nat) (ps : List Str) (sp : Sp) : Prop where
  ex : ∃ f fd, mg x = some (.ref f) ∧ PySem.W.keepIn K (.ref f) = true ∧ Binds K fd ps [] ∧ FnOk P w K mg base CX0 k f fd ps sp
structure DefG (P : Program) (w : World) (K : PySem.W.Frag) (mg : Str → Option Value) (base : Heap) (x : Str) (k : Nat) (ps : List Str) (sp : Sp) : Prop where
  ex : ∃ f fd, mg x = some (.ref f) ∧ PySem.W.keepIn K (.ref f) = true ∧ Binds K fd ps [] ∧ FnG P w K mg base CX0 k f fd ps sp
section
variable {X : Cx} {k : Nat} {ps : List Str} {sp : Sp} {x : Str} {p pos : Pos} {e : Expr} {es : List Expr} {t : TA}
theorem pe_callD (D : Def X.prog X.w X.K X.mg X.base x k ps sp) (hr : Room k X.A) (hg : Gl X x) (ha : PA X (e :: es) t) (hdb : (x == ("__debug__" : Str)) = false := by decide)
    (he : starEach (e :: es) X.env = (false, eval e X.env) :: starEach es X.env := by rfl) (hpl : (backTo pos (starEach es X.env)).any (·.1) = false := by rfl) : PE X (.Call (.Name x p) (e :: es) [] pos) (tCall sp [] E0 t) := by
  obtain ⟨f, fd, g, kp, b, F⟩ := D.ex
  exact pe_call F hr hg g kp b .nil pass0 ha hdb he hpl
theorem pe_callDG (D : DefG X.prog X.w X.K X.mg X.base x k ps sp) (hgu : X.A.guards = some []) (hr : Room k X.A) (hg : Gl X x) (ha : PA X (e :: es) t) (hdb : (x == ("__debug__" : Str)) = false := by decide)
    (he : starEach (e :: es) X.env = (false, eval e X.env) :: starEach es X.env := by rfl) (hpl : (backTo pos (starEach es X.env)).any (·.1) = false := by rfl) : PE X (.Call (.Name x p) (e :: es) [] pos) (tCall sp [] E0 t) := by
  obtain ⟨f, fd, g, kp, b, F⟩ := D.ex
  exact pe_callG F hgu hr hg g kp b .nil pass0 ha hdb he hpl
end
/-- an error stands at e, of the class at C; of its fields these are known -/
def ErrF (H : Hp) (e C : Addr) (l : List (Str × V)) : Prop := ∃ fs, ErrAt H e C fs ∧ ∀ f v, l.lookup f = some v → fs.lookup f = some v
theorem ErrF.same {H H' : Hp} {e C : Addr} {l : List (Str × V)} (x : ErrF H e C l) (s : Same H H') : ErrF H' e C l := by
  obtain ⟨fs, a, b⟩ := x
  exact ⟨fs, a.same s, b⟩
/-- error classes with one field, with two -/
structure Err1 (P : Program) (w : World) (K : PySem.W.Frag) (mg : Str → Option Value) (base : Heap) (x f : Str) (C : Addr) : Prop where
  ex : ∃ fI fd, MkX P w K mg base 1 x C fI fd [f] ∧ (∀ (s : Shared) (u v : Value), K.In s.heap → BindsTo s fd ⟨[u, v], []⟩ [("self", u), (f, v)]) ∧ ∀ (s : Shared) (u v : Value), K.In s.heap → BindsTo s fd ⟨[u], [(f, v)]⟩ [("self", u), (f, v)]
structure Err2 (P : Program) (w : World) (K : PySem.W.Frag) (mg : Str → Option Value) (base : Heap) (x f g : Str) (C : Addr) : Prop where
  ex : ∃ fI fd, MkX P w K mg base 1 x C fI fd [f, g] ∧ (∀ (s : Shared) (u v v' : Value), K.In s.heap → BindsTo s fd ⟨[u, v, v'], []⟩ [("self", u), (f, v), (g, v')]) ∧
    ∀ (s : Shared) (u v v' : Value), K.In s.heap → BindsTo s fd ⟨[u], [(g, v'), (f, v)]⟩ [("self", u), (f, v), (g, v')]
def tErr1 (C : Addr) (f : Str) (te : TE) : TE := fun σ H Q => te σ H fun v H1 => ∀ a H2, H1 a = none → Same H1 H2 → ErrF H2 a C [(f, v)] → Q (.ref a) H2
def tErr2 (C : Addr) (f g : Str) (ta tb : TE) : TE := fun σ H Q => ta σ H fun v H1 => tb σ H1 fun u H2 => ∀ a H3, H2 a = none → Same H2 H3 → ErrF H3 a C [(f, v), (g, u)] → Q (.ref a) H3
/-- the second field is told first -/
def tErr2R (C : Addr) (f g : Str) (tb ta : TE) : TE := fun σ H Q => tb σ H fun u H1 => ta σ H1 fun v H2 => ∀ a H3, H2 a = none → Same H2 H3 → ErrF H3 a C [(f, v), (g, u)] → Q (.ref a) H3
section
variable {X : Cx} {x f g : Str} {C : Addr} {p pos kp kq : Pos} {e e' : Expr} {te te' : TE}
theorem spl1 {pins : List (Addr × Obj)} {σ : L2.St} {H : Hp} {s : Shared} {R : VK} {Z : List Value → Shared → Prop} (ha : PE X e te) (I : Inv X pins σ H s) (h : te σ H R) (hf : ∀ u s1 v H1, Inv X pins σ H1 s1 → RelV v u → R v H1 → Z [u] s1)
    (h1 : starEach [e] X.env = (false, eval e X.env) :: starEach [] X.env := by rfl) : wpAny (model X.prog X.w) X.A (spliced (backTo pos (starEach [e] X.env))) Z X.xe s := by
  rw [h1]
  show wpAny _ _ (spliced ((false, eval e X.env) :: backTo pos (starEach [] X.env))) _ _ s
  apply Calls.spliced_cons
  refine thn (ha.run pins s σ H _ I h) ?_
  rintro u s1 ⟨v, H1, I1, r, q⟩
  exact Calls.spliced_nil (hf u s1 v H1 I1 r q)
theorem spl2 {pins : List (Addr × Obj)} {σ : L2.St} {H : Hp} {s : Shared} {R : V → V → Hp → Prop} {Z : List Value → Shared → Prop} (ha : PE X e te) (hb : PE X e' te') (I : Inv X pins σ H s) (h : te σ H fun v H1 => te' σ H1 fun v' H2 => R v v' H2)
    (hf : ∀ u u' s1 v v' H1, Inv X pins σ H1 s1 → RelV v u → RelV v' u' → R v v' H1 → Z [u, u'] s1)
    (h2 : starEach [e, e'] X.env = (false, eval e X.env) :: starEach [e'] X.env := by rfl) (h1 : starEach [e'] X.env = (false, eval e' X.env) :: starEach [] X.env := by rfl) : wpAny (model X.prog X.w) X.A (spliced (backTo pos (starEach [e, e'] X.env))) Z X.xe s := by
  rw [h2, h1]
  show wpAny _ _ (spliced ((false, eval e X.env) :: ((false, eval e' X.env) :: backTo pos (starEach [] X.env)))) _ _ s
  apply Calls.spliced_cons
  refine thn (ha.run pins s σ H _ I h) ?_
  rintro u s1 ⟨v, H1, I1, r, q⟩
  apply Calls.spliced_cons
  refine thn (hb.run pins s1 σ H1 _ I1 q) ?_
  rintro u' s2 ⟨v', H2, I2, r', q'⟩
  exact Calls.spliced_nil (hf u u' s2 v v' H2 I2 r r' q')
theorem pe_err1 (D : Err1 X.prog X.w X.K X.mg X.base x f C) (hr : Room 2 X.A) (hg : Gl X x) (ha : PE X e te) (hdb : (x == ("__debug__" : Str)) = false := by decide) (h1 : starEach [e] X.env = (false, eval e X.env) :: starEach [] X.env := by rfl)
    (hpl : (backTo pos (starEach [] X.env)).any (·.1) = false := by rfl) : PE X (.Call (.Name x p) [e] [] pos) (tErr1 C f te) := by
  obtain ⟨fI, fd, M, b1, b2⟩ := D.ex
  constructor
  intro pins s σ H Q I h
  apply wpAny_Call_Name_kw
  refine ld_glob I hg M.gC ?_ hdb
  refine PySem.W.callWith_K (h₀ := X.base) I.ok.mod.kin M.o.kC ?_ h1 hpl
  refine spl1 ha I h (fun u s1 v H1 I1 r q => ⟨I1.kIn, ?_⟩) h1
  exact run_mkX (ks := []) (ws := []) (as := [u]) (ts := [v]) M hr (fun s' u' kk => b1 s' u' u kk) I1 (.cons r .nil) rfl (by decide : 1 ≤ 1000) fun a H2 fs z1 z2 z3 z4 => q a H2 z1 z2 ⟨fs, z3, z4⟩
theorem pe_err2 (D : Err2 X.prog X.w X.K X.mg X.base x f g C) (hr : Room 2 X.A) (hg : Gl X x) (ha : PE X e te) (hb : PE X e' te') (hdb : (x == ("__debug__" : Str)) = false := by decide)
    (h2 : starEach [e, e'] X.env = (false, eval e X.env) :: starEach [e'] X.env := by rfl) (h1 : starEach [e'] X.env = (false, eval e' X.env) :: starEach [] X.env := by rfl)
    (hpl : (backTo pos (starEach [e'] X.env)).any (·.1) = false := by rfl) : PE X (.Call (.Name x p) [e, e'] [] pos) (tErr2 C f g te te') := by
  obtain ⟨fI, fd, M, b1, b2⟩ := D.ex
  constructor
  intro pins s σ H Q I h
  apply wpAny_Call_Name_kw
  refine ld_glob I hg M.gC ?_ hdb
  refine PySem.W.callWith_K (h₀ := X.base) I.ok.mod.kin M.o.kC ?_ h2 hpl
  refine spl2 ha hb I h (fun u u' s1 v v' H1 I1 r r' q => ⟨I1.kIn, ?_⟩) h2 h1
  exact run_mkX (ks := []) (ws := []) (as := [u, u']) (ts := [v, v']) M hr (fun s' z kk => b1 s' z u u' kk) I1 (.cons r (.cons r' .nil)) rfl (by decide : 2 ≤ 1000) fun a H2 fs z1 z2 z3 z4 => q a H2 z1 z2 ⟨fs, z3, z4⟩
theorem kws1 {pins : List (Addr × Obj)} {σ : L2.St} {H : Hp} {s : Shared} {R : VK} {Z : List Value → Shared → Prop} {n : Option Str} (ha : PE X e te) (I : Inv X pins σ H s) (h : te σ H R) (hf : ∀ u s1 v H1, Inv X pins σ H1 s1 → RelV v u → R v H1 → Z [u] s1) :
    wpAny (model X.prog X.w) X.A (evalAll ((backToKw pos (keywordEach [⟨n, e, kp⟩] X.env)).map (·.2))) Z X.xe s := by
  show wpAny _ _ (evalAll [do let v ← eval e X.env; standAt pos; pure v]) _ _ s
  apply wpAny_evalAll_cons
  apply wpAny_bind
  refine thn (ha.run pins s σ H _ I h) ?_
  rintro u s1 ⟨v, H1, I1, r, q⟩
  apply wpAny_bind
  apply wpAny_standAt
  apply wpAny_pure
  apply wpAny_evalAll_nil
  exact hf u s1 v H1 I1 r q
theorem kws2 {pins : List (Addr × Obj)} {σ : L2.St} {H : Hp} {s : Shared} {R : V → V → Hp → Prop} {Z : List Value → Shared → Prop} {n n' : Option Str} (ha : PE X e te) (hb : PE X e' te') (I : Inv X pins σ H s) (h : te σ H fun v H1 => te' σ H1 fun v' H2 => R v v' H2)
    (hf : ∀ u u' s1 v v' H1, Inv X pins σ H1 s1 → RelV v u → RelV v' u' → R v v' H1 → Z [u, u'] s1) :
    wpAny (model X.prog X.w) X.A (evalAll ((backToKw pos (keywordEach [⟨n, e, kp⟩, ⟨n', e', kq⟩] X.env)).map (·.2))) Z X.xe s := by
  show wpAny _ _ (evalAll [(do let v ← eval e X.env; standAt pos; pure v), (do let v ← eval e' X.env; standAt pos; pure v)]) _ _ s
  apply wpAny_evalAll_cons
  apply wpAny_bind
  refine thn (ha.run pins s σ H _ I h) ?_
  rintro u s1 ⟨v, H1, I1, r, q⟩
  apply wpAny_bind
  apply wpAny_standAt
  apply wpAny_pure
  apply wpAny_evalAll_cons
  apply wpAny_bind
  refine thn (hb.run pins s1 σ H1 _ I1 q) ?_
  rintro u' s2 ⟨v', H2, I2, r', q'⟩
  apply wpAny_bind
  apply wpAny_standAt
  apply wpAny_pure
  apply wpAny_evalAll_nil
  exact hf u u' s2 v v' H2 I2 r r' q'
theorem pe_err1K (D : Err1 X.prog X.w X.K X.mg X.base x f C) (hr : Room 2 X.A) (hg : Gl X x) (ha : PE X e te) (hdb : (x == ("__debug__" : Str)) = false := by decide) (hall : (backToKw pos (keywordEach [⟨some f, e, kp⟩] X.env)).all (·.1.isSome) = true := by rfl)
    (hks : (backToKw pos (keywordEach [⟨some f, e, kp⟩] X.env)).filterMap (·.1) = [f] := by rfl)
    (hpl : ((backTo pos (starEach [] X.env)).any (·.1) || (backToKw pos (keywordEach [⟨some f, e, kp⟩] X.env)).any (·.1.isNone)) = false := by rfl) : PE X (.Call (.Name x p) [] [⟨some f, e, kp⟩] pos) (tErr1 C f te) := by
  obtain ⟨fI, fd, M, b1, b2⟩ := D.ex
  constructor
  intro pins s σ H Q I h
  apply wpAny_Call_Name_kw
  refine ld_glob I hg M.gC ?_ hdb
  refine PySem.W.callWith_KW0 (h₀ := X.base) I.ok.mod.kin M.o.kC hall ?_ hpl
  refine kws1 ha I h (fun u s1 v H1 I1 r q => ⟨I1.kIn, ?_⟩)
  rw [hks]
  exact run_mkX (ks := [f]) (us := []) (ws := [u]) (as := [u]) (ts := [v]) M hr (fun s' u' kk => b2 s' u' u kk) I1 (.cons r .nil) rfl (by decide : 0 ≤ 1000) fun a H2 fs z1 z2 z3 z4 => q a H2 z1 z2 ⟨fs, z3, z4⟩
/-- by name, the second field ahead of the first -/
theorem pe_err2K (D : Err2 X.prog X.w X.K X.mg X.base x f g C) (hr : Room 2 X.A) (hg : Gl X x) (ha : PE X e te) (hb : PE X e' te') (hdb : (x == ("__debug__" : Str)) = false := by decide) (hall : (backToKw pos (keywordEach [⟨some g, e, kp⟩, ⟨some f, e', kq⟩] X.env)).all (·.1.isSome) = true := by rfl)
    (hks : (backToKw pos (keywordEach [⟨some g, e, kp⟩, ⟨some f, e', kq⟩] X.env)).filterMap (·.1) = [g, f] := by rfl)
    (hpl : ((backTo pos (starEach [] X.env)).any (·.1) || (backToKw pos (keywordEach [⟨some g, e, kp⟩, ⟨some f, e', kq⟩] X.env)).any (·.1.isNone)) = false := by rfl) : PE X (.Call (.Name x p) [] [⟨some g, e, kp⟩, ⟨some f, e', kq⟩] pos) (tErr2R C f g te te') := by
  obtain ⟨fI, fd, M, b1, b2⟩ := D.ex
  constructor
  intro pins s σ H Q I h
  apply wpAny_Call_Name_kw
  refine ld_glob I hg M.gC ?_ hdb
  refine PySem.W.callWith_KW0 (h₀ := X.base) I.ok.mod.kin M.o.kC hall ?_ hpl
  refine kws2 (R := fun u v H2 => ∀ a H3, H2 a = none → Same H2 H3 → ErrF H3 a C [(f, v), (g, u)] → Q (.ref a) H3) ha hb I h (fun u u' s1 v v' H1 I1 r r' q => ⟨I1.kIn, ?_⟩)
  rw [hks]
  exact run_mkX (ks := [g, f]) (us := []) (ws := [u, u']) (as := [u', u]) (ts := [v', v]) M hr (fun s' z kk => b2 s' z u' u kk) I1 (.cons r' (.cons r .nil)) rfl (by decide : 0 ≤ 1000) fun a H2 fs z1 z2 z3 z4 => q a H2 z1 z2 ⟨fs, z3, z4⟩
/-- an error class without an __init__ of its own, called without arguments -/
theorem pe_err0 {C : Addr} {bmB : List Value} {B newId initId : String} (F : ExcBaseFacts B newId initId bmB) (q : PySem.W.excIn X.K C bmB newId = true) (T : OexC X.K C) (gC : X.mg x = some (.ref C)) (hg : Gl X x) (hdb : (x == ("__debug__" : Str)) = false := by decide) :
    PE X (.Call (.Name x p) [] [] pos) (fun _ H Q => ∀ a H2, H a = none → Same H H2 → ErrF H2 a C [] → Q (.ref a) H2) := by
  constructor
  intro pins s σ H Q I h
  apply wpAny_Call_Name_kw
  refine ld_glob I hg gC ?_ hdb
  refine PySem.W.callWith_K0 I.kIn T.kC ?_
  show wpAny _ _ (call (.ref C) []) _ _ _
  obtain ⟨bm, N, nm, qn, bs, hdct, sn, sub, ab, col, dd, k0, k1, k2, k3, k5, mN, hC, hN, hni, tl⟩ := exc_obj I.kIn q
  refine wpAny_call_exc_subT F tl hC hN hni (fun h' a hm => ?_) (by show 0 ≤ sizeLine; exact Nat.zero_le _)
  have hn : H a = none := I.hok.gone hm.new
  obtain ⟨t, ht, _, _⟩ := hm.there
  have ok : ObjOk X.prog X.w (upd H a (exo a C none)) h' a (exo a C none) := exo_ok ht
  exact ⟨.ref a, upd H a (exo a C none), I.laidN hm.keeps hm.new hn ok, rfl, h a _ hn (fun b o z => by rw [upd_ne (ne_of_none z hn)]; exact z) ⟨[], .inl ⟨rfl, upd_same⟩, fun f v z => by cases z⟩⟩
end
/-- e.f of an error -/
def tErrF (K : PySem.W.Frag) (f : Str) (te : TE) : TE := fun σ H Q => te σ H fun x H1 => ∃ (e C : Addr) (l : List (Str × V)) (v : V), x = .ref e ∧ ErrF H1 e C l ∧ XfC K C ∧ PySem.W.findIn K (.ref C) f = some none ∧ l.lookup f = some v ∧ Q v H1
theorem pe_errF {X : Cx} {e : Expr} {te : TE} {pos : Pos} {f : Str} (he : PE X e te) (hb : attributeBase e f X.env (eval e X.env) = eval e X.env := by rfl) : PE X (.Attribute e f pos) (tErrF X.K f te) := by
  constructor
  intro pins s σ H Q I h
  apply attr_of hb
  refine thn (he.run pins s σ H _ I h) ?_
  rintro u s1 ⟨x, H1, I1, rx, e1, C, l, v, rfl, ⟨fs, at_, known⟩, T, no, lk, q⟩
  cases rx
  obtain ⟨ox, od, J, look⟩ := at_.inst I1
  have lk2 := known _ _ lk
  rcases look f with ⟨_, z⟩ | ⟨o, r, rfl, hl, rel⟩
  · rw [lk2] at z
    cases z
  · obtain ⟨u, hu, ru⟩ := RelO.some_of (v := v) (o := r) (by rw [← lk2]; exact rel)
    exact HandSPX.exc_get I1.kIn J T.ga T.gg T.exC (PySem.W.findObj_own T.hdC no rfl (by rw [hl, hu])) (handed_of ru) ⟨v, H1, I1.tok _, ru, q⟩
/-- isinstance(e, c) of an error -/
def rIsE (K : PySem.W.Frag) : List V → Hp → VK → Prop := fun xs H Q => ∃ (e C : Addr) (l : List (Str × V)) (c : V) (cv : Value) (b : Bool), xs = [.ref e, c] ∧ ErrF H e C l ∧ ExcC K C ∧ (∀ u, RelV c u → u = cv) ∧ PySem.W.kitOne K (.ref C) cv = some b ∧ Q (.bl b) H
theorem call_isE {X : Cx} : CallR X (.builtin "isinstance") (rIsE X.K) := by
  intro pins s σ H xs us Q I r h
  obtain ⟨e, C, l, c, cv, b, rfl, ⟨fs, at_, _⟩, cl, hcv, k, q⟩ := h
  exact call_isX pins s σ H _ us Q I r ⟨e, C, fs, c, cv, b, rfl, at_, cl, hcv, k, q⟩
end L2.RV
set_option Elab.async false
set_option linter.all false
set_option maxRecDepth 100000
set_option maxHeartbeats 4000000
/-! The pen of a law: its list of numbers, how many draws were made, what is left of a great one. -/
namespace L2.RV
open PySem PySem.Spec PyProof.Rows
structure PenAt (H : Hp) (p l : Addr) (ns : List Int) (at_ rest : Int) : Prop where
  pen : H p = some (.lst [.ref l, .int at_, .int rest])
  nums : H l = some (.lst (ns.map V.int))
  ne : l ≠ p
  few : ns.length ≤ 63
  from0 : 0 ≤ at_
  rest0 : 0 ≤ rest
theorem PenAt.same {H H' : Hp} {p l : Addr} {ns : List Int} {a r : Int} (x : PenAt H p l ns a r) (s : Same H H') : PenAt H' p l ns a r := ⟨s _ _ x.pen, s _ _ x.nums, x.ne, x.few, x.from0, x.rest0⟩
/-- _law_pen(script) -/
def spPen (K : PySem.W.Frag) : Sp := fun vs H Q _ => ∃ (a : Addr) (ns : List Int), vs = [.ref a] ∧ SqL K H a (ns.map V.int) ∧ ns.length ≤ 63 ∧ ∀ H' p l ns', Same H H' → H p = none → PenAt H' p l ns' 0 0 → Q (.ref p) H'
/-- _law_draw(pen, many) -/
def spDraw : Sp := fun vs H Q _ => ∃ (p l : Addr) (ns : List Int) (a r m : Int), vs = [.ref p, .int m] ∧ PenAt H p l ns a r ∧ a ≤ 100000 ∧ 0 < m ∧ m < 1073741824 ∧
  ∀ H' a' r' d, Keep p H H' → PenAt H' p l ns a' r' → a' ≤ a + 1 → 0 ≤ d → d < m → Q (.int d) H'
/-- _law_pick(pen, some) -/
def spPick : Sp := fun vs H Q _ => ∃ (p l q : Addr) (ns : List Int) (a r : Int) (xs : List V), vs = [.ref p, .ref q] ∧ PenAt H p l ns a r ∧ a ≤ 100000 ∧ H q = some (.lst xs) ∧ q ≠ p ∧ 0 < xs.length ∧ xs.length < 1000000 ∧
  ∀ H' a' r' v, Keep p H H' → PenAt H' p l ns a' r' → a' ≤ a + 1 → v ∈ xs → Q v H'
theorem rd_ix {K : PySem.W.Frag} {H : Hp} {p : Addr} {xs : List V} {k : Int} {v : V} {Q : VK} (h : H p = some (.lst xs)) (e : atI xs k = some v) (q : Q v H) : rIx K (.ref p) (.int k) H Q := .inl ⟨p, xs, k, v, rfl, rfl, SqL.of h, e, q⟩
theorem rd_set {H : Hp} {p : Addr} {xs : List V} (ys : List V) {k : Int} {j : Nat} {v : V} {Q : Hp → Prop} (h : H p = some (.lst xs)) (e : ixN xs.length k = some j) (w : xs.set j v = ys) (q : Q (upd H p (.lst ys))) : rSetL (.ref p) (.int k) v H Q := ⟨p, xs, k, j, rfl, rfl, h, e, by rw [w]; exact q⟩
theorem cut_ints (ns : List Int) (lo hi : Option Int) : ∃ ms : List Int, cutV (ns.map V.int) lo hi = ms.map V.int ∧ ms.length ≤ ns.length := by
  refine ⟨(ns.drop (HT.sIx (ns.map V.int).length 0 lo)).take (HT.sIx (ns.map V.int).length (ns.map V.int).length hi - HT.sIx (ns.map V.int).length 0 lo), ?_, ?_⟩
  · unfold cutV
    rw [List.map_take, List.map_drop]
  · rw [List.length_take, List.length_drop]
    omega
theorem atI_mod {ns : List Int} {a : Int} (h : 0 < ns.length) (h0 : 0 ≤ a) : ∃ c, atI (ns.map V.int) (a % (ns.map V.int).length) = some (.int c) := by
  have hl : ((ns.map V.int).length : Int) = (ns.length : Int) := by rw [List.length_map]
  have b0 : 0 ≤ a % (ns.length : Int) := Int.emod_nonneg _ (by omega)
  have b1 : a % (ns.length : Int) < (ns.length : Int) := Int.emod_lt_of_pos _ (by omega)
  obtain ⟨j, hj⟩ : ∃ j : Nat, a % (ns.length : Int) = (j : Int) := ⟨_, (Int.toNat_of_nonneg b0).symm⟩
  have lt : j < ns.length := by omega
  refine ⟨ns[j], ?_⟩
  rw [hl, hj]
  exact atI_nat (by rw [List.getElem?_map, List.getElem?_eq_getElem lt]; rfl)
theorem no_ints {ns : List Int} : PyData.eqv (.list (ns.map PyData.int)) (.list []) = ns.isEmpty := by
  cases ns with
  | nil => rfl
  | cons n ns => rfl
theorem mul_small {x y b c : Int} (x0 : 0 ≤ x) (x1 : x ≤ b) (y0 : 0 ≤ y) (y1 : y ≤ c) : 0 ≤ x * y ∧ x * y ≤ b * c :=
  ⟨Int.mul_nonneg x0 y0, Int.le_trans (Int.mul_le_mul_of_nonneg_right x1 y0) (Int.mul_le_mul_of_nonneg_left y1 (Int.le_trans x0 x1))⟩
theorem cpow5 {x : Int} (x0 : 0 ≤ x) (x1 : x ≤ 1000000000000) : CPow x 5 := ⟨by decide, by decide, by omega⟩
theorem cpow3 {y u v a c : Int} (y0 : 0 ≤ y) (y1 : y ≤ 2147483648) (u0 : 0 ≤ u) (u1 : u ≤ 1048576) (v0 : 0 ≤ v) (v1 : v ≤ 1099511627776) (a0 : 0 ≤ a) (a1 : a ≤ 100000) (c0 : 0 ≤ c) (c1 : c ≤ 1000000) : CPow (y * u + v * a + c) 3 := by
  have z1 := mul_small y0 y1 u0 u1
  have z2 := mul_small v0 v1 a0 a1
  exact ⟨by decide, by decide, by omega⟩
theorem cmulL {x y : Int} (x0 : 0 ≤ x) (x1 : x ≤ 1000000000000000000) : CMul x y := .inl ⟨by omega, by omega⟩
theorem e18 : (10 : Int) ^ (18 : Int).toNat = 1000000000000000000 := by decide
theorem c18 : CPow 10 18 := ⟨by decide, by decide, by decide⟩
end L2.RV
set_option Elab.async false
set_option linter.all false
set_option maxRecDepth 100000
set_option maxHeartbeats 4000000
/-! The text by places, what is asked of the heap behind the top. -/
namespace L2.K00
open PySem PySem.Spec PyProof.Rows L2.RV
def top (i : Nat) : Stmt := PySem.Challenge.pw_rowvault_k00_errors_and_their_fields.main.body.getD i (.Pass ⟨0, 0, 0, 0⟩)
abbrev s_law_pen : Stmt := top 36
theorem sc_law_pen : FnScope ["_law_script"] ["_law_script"] (defScope s_law_pen) := ⟨rfl, rfl, rfl, by decide +kernel, rfl, by decide +kernel, by decide +kernel⟩
abbrev s_law_draw : Stmt := top 37
theorem sc_law_draw : FnScope ["_law_pen_here", "_law_many", "_law_at", "_law_cell", "_law_mixed", "_law_digit", "_law_great"] ["_law_pen_here", "_law_many"] (defScope s_law_draw) := ⟨rfl, rfl, rfl, by decide +kernel, rfl, by decide +kernel, by decide +kernel⟩
abbrev s_law_pick : Stmt := top 38
theorem sc_law_pick : FnScope ["_law_pen_here", "_law_some"] ["_law_pen_here", "_law_some"] (defScope s_law_pick) := ⟨rfl, rfl, rfl, by decide +kernel, rfl, by decide +kernel, by decide +kernel⟩
abbrev s_law_value : Stmt := top 39
theorem sc_law_value : FnScope ["_law_pen_here", "_law_some"] ["_law_pen_here"] (defScope s_law_value) := ⟨rfl, rfl, rfl, by decide +kernel, rfl, by decide +kernel, by decide +kernel⟩
abbrev s_law_signs : Stmt := top 40
theorem sc_law_signs : FnScope ["_law_error", "_law_found"] ["_law_error"] (defScope s_law_signs) := ⟨rfl, rfl, rfl, by decide +kernel, rfl, by decide +kernel, by decide +kernel⟩
abbrev s_law_kinds : Stmt := top 41
theorem sc_law_kinds : FnScope ["_law_error", "_law_sign", "_law_is_so"] ["_law_error"] (defScope s_law_kinds) := ⟨rfl, rfl, rfl, by decide +kernel, rfl, by decide +kernel, by decide +kernel⟩
abbrev s_law_parted : Stmt := top 42
theorem sc_law_parted : FnScope ["_law_thing", "_law_made", "_law_error", "_law_sign"] ["_law_thing"] (defScope s_law_parted) := ⟨rfl, rfl, rfl, by decide +kernel, rfl, by decide +kernel, by decide +kernel⟩
abbrev s_law_valued : Stmt := top 43
theorem sc_law_valued : FnScope ["_law_thing", "_law_made", "_law_found", "_law_line_so", "_law_untold_so", "_law_gone_so", "_law_taken_so", "_law_unit_so", "_law_name_so", "_law_error", "_law_sign"] ["_law_thing"] (defScope s_law_valued) := ⟨rfl, rfl, rfl, by decide +kernel, rfl, by decide +kernel, by decide +kernel⟩
abbrev s_law_pairs_right : Stmt := top 44
theorem sc_law_pairs_right : FnScope ["_law_thing", "_law_more", "_law_told", "_law_text_so", "_law_much"] ["_law_thing", "_law_more"] (defScope s_law_pairs_right) := ⟨rfl, rfl, rfl, by decide +kernel, rfl, by decide +kernel, by decide +kernel⟩
abbrev s_law : Stmt := top 45
theorem sc_law : FnScope ["_law_script", "_law_pen_here", "_law_turn", "_law_groups", "_law_thing", "_law_more", "_law_error", "_law_signs_here", "_law_field"] ["_law_script"] (defScope s_law) := ⟨rfl, rfl, rfl, by decide +kernel, rfl, by decide +kernel, by decide +kernel⟩
def d_law_pen : He.DefD := ⟨("_law_pen", none), "_law_pen", "_law_pen", defArgs s_law_pen, defBody s_law_pen, defScope s_law_pen, [], []⟩
def d_law_draw : He.DefD := ⟨("_law_draw", none), "_law_draw", "_law_draw", defArgs s_law_draw, defBody s_law_draw, defScope s_law_draw, [], []⟩
def d_law_pick : He.DefD := ⟨("_law_pick", none), "_law_pick", "_law_pick", defArgs s_law_pick, defBody s_law_pick, defScope s_law_pick, [], []⟩
def d_law_value : He.DefD := ⟨("_law_value", none), "_law_value", "_law_value", defArgs s_law_value, defBody s_law_value, defScope s_law_value, [], []⟩
def d_law_signs : He.DefD := ⟨("_law_signs", none), "_law_signs", "_law_signs", defArgs s_law_signs, defBody s_law_signs, defScope s_law_signs, [], []⟩
def d_law_kinds : He.DefD := ⟨("_law_kinds", none), "_law_kinds", "_law_kinds", defArgs s_law_kinds, defBody s_law_kinds, defScope s_law_kinds, [], []⟩
def d_law_parted : He.DefD := ⟨("_law_parted", none), "_law_parted", "_law_parted", defArgs s_law_parted, defBody s_law_parted, defScope s_law_parted, [], []⟩
def d_law_valued : He.DefD := ⟨("_law_valued", none), "_law_valued", "_law_valued", defArgs s_law_valued, defBody s_law_valued, defScope s_law_valued, [], []⟩
def d_law_pairs_right : He.DefD := ⟨("_law_pairs_right", none), "_law_pairs_right", "_law_pairs_right", defArgs s_law_pairs_right, defBody s_law_pairs_right, defScope s_law_pairs_right, [], []⟩
def d_law : He.DefD := ⟨("law", none), "law", "law", defArgs s_law, defBody s_law, defScope s_law, [], []⟩
abbrev s_BadShape : Stmt := inClass (top 6) 0
def d_BadShape : He.DefD := ⟨("BadShape", some "__init__"), "__init__", "BadShape.__init__", defArgs s_BadShape, defBody s_BadShape, defScope s_BadShape, [], []⟩
abbrev s_BadTable : Stmt := inClass (top 7) 0
def d_BadTable : He.DefD := ⟨("BadTable", some "__init__"), "__init__", "BadTable.__init__", defArgs s_BadTable, defBody s_BadTable, defScope s_BadTable, [], []⟩
abbrev s_BadPart : Stmt := inClass (top 8) 0
def d_BadPart : He.DefD := ⟨("BadPart", some "__init__"), "__init__", "BadPart.__init__", defArgs s_BadPart, defBody s_BadPart, defScope s_BadPart, [], []⟩
abbrev s_BadQuestion : Stmt := inClass (top 9) 0
def d_BadQuestion : He.DefD := ⟨("BadQuestion", some "__init__"), "__init__", "BadQuestion.__init__", defArgs s_BadQuestion, defBody s_BadQuestion, defScope s_BadQuestion, [], []⟩
abbrev s_BadSpan : Stmt := inClass (top 10) 0
def d_BadSpan : He.DefD := ⟨("BadSpan", some "__init__"), "__init__", "BadSpan.__init__", defArgs s_BadSpan, defBody s_BadSpan, defScope s_BadSpan, [], []⟩
abbrev s_BadKind : Stmt := inClass (top 11) 0
def d_BadKind : He.DefD := ⟨("BadKind", some "__init__"), "__init__", "BadKind.__init__", defArgs s_BadKind, defBody s_BadKind, defScope s_BadKind, [], []⟩
abbrev s_BadLayout : Stmt := inClass (top 12) 0
def d_BadLayout : He.DefD := ⟨("BadLayout", some "__init__"), "__init__", "BadLayout.__init__", defArgs s_BadLayout, defBody s_BadLayout, defScope s_BadLayout, [], []⟩
abbrev s_BadRule : Stmt := inClass (top 13) 0
def d_BadRule : He.DefD := ⟨("BadRule", some "__init__"), "__init__", "BadRule.__init__", defArgs s_BadRule, defBody s_BadRule, defScope s_BadRule, [], []⟩
abbrev s_BadPlan : Stmt := inClass (top 14) 0
def d_BadPlan : He.DefD := ⟨("BadPlan", some "__init__"), "__init__", "BadPlan.__init__", defArgs s_BadPlan, defBody s_BadPlan, defScope s_BadPlan, [], []⟩
abbrev s_BadPoly : Stmt := inClass (top 15) 0
def d_BadPoly : He.DefD := ⟨("BadPoly", some "__init__"), "__init__", "BadPoly.__init__", defArgs s_BadPoly, defBody s_BadPoly, defScope s_BadPoly, [], []⟩
abbrev s_BadSites : Stmt := inClass (top 16) 0
def d_BadSites : He.DefD := ⟨("BadSites", some "__init__"), "__init__", "BadSites.__init__", defArgs s_BadSites, defBody s_BadSites, defScope s_BadSites, [], []⟩
abbrev s_BadOrder : Stmt := inClass (top 17) 0
def d_BadOrder : He.DefD := ⟨("BadOrder", some "__init__"), "__init__", "BadOrder.__init__", defArgs s_BadOrder, defBody s_BadOrder, defScope s_BadOrder, [], []⟩
abbrev s_BadVault : Stmt := inClass (top 18) 0
def d_BadVault : He.DefD := ⟨("BadVault", some "__init__"), "__init__", "BadVault.__init__", defArgs s_BadVault, defBody s_BadVault, defScope s_BadVault, [], []⟩
abbrev s_BadBook : Stmt := inClass (top 19) 0
def d_BadBook : He.DefD := ⟨("BadBook", some "__init__"), "__init__", "BadBook.__init__", defArgs s_BadBook, defBody s_BadBook, defScope s_BadBook, [], []⟩
abbrev s_BadPlace : Stmt := inClass (top 20) 0
def d_BadPlace : He.DefD := ⟨("BadPlace", some "__init__"), "__init__", "BadPlace.__init__", defArgs s_BadPlace, defBody s_BadPlace, defScope s_BadPlace, [], []⟩
abbrev s_BadAmount : Stmt := inClass (top 21) 0
def d_BadAmount : He.DefD := ⟨("BadAmount", some "__init__"), "__init__", "BadAmount.__init__", defArgs s_BadAmount, defBody s_BadAmount, defScope s_BadAmount, [], []⟩
abbrev s_BadUnit : Stmt := inClass (top 22) 0
def d_BadUnit : He.DefD := ⟨("BadUnit", some "__init__"), "__init__", "BadUnit.__init__", defArgs s_BadUnit, defBody s_BadUnit, defScope s_BadUnit, [], []⟩
abbrev s_BadCount : Stmt := inClass (top 23) 0
def d_BadCount : He.DefD := ⟨("BadCount", some "__init__"), "__init__", "BadCount.__init__", defArgs s_BadCount, defBody s_BadCount, defScope s_BadCount, [], []⟩
abbrev s_BadName : Stmt := inClass (top 24) 0
def d_BadName : He.DefD := ⟨("BadName", some "__init__"), "__init__", "BadName.__init__", defArgs s_BadName, defBody s_BadName, defScope s_BadName, [], []⟩
abbrev s_BadText : Stmt := inClass (top 25) 0
def d_BadText : He.DefD := ⟨("BadText", some "__init__"), "__init__", "BadText.__init__", defArgs s_BadText, defBody s_BadText, defScope s_BadText, [], []⟩
abbrev s_BadLine : Stmt := inClass (top 26) 0
def d_BadLine : He.DefD := ⟨("BadLine", some "__init__"), "__init__", "BadLine.__init__", defArgs s_BadLine, defBody s_BadLine, defScope s_BadLine, [], []⟩
abbrev s_TooMany : Stmt := inClass (top 27) 0
def d_TooMany : He.DefD := ⟨("TooMany", some "__init__"), "__init__", "TooMany.__init__", defArgs s_TooMany, defBody s_TooMany, defScope s_TooMany, [], []⟩
abbrev s_Untold : Stmt := inClass (top 28) 0
def d_Untold : He.DefD := ⟨("Untold", some "__init__"), "__init__", "Untold.__init__", defArgs s_Untold, defBody s_Untold, defScope s_Untold, [], []⟩
abbrev s_Gone : Stmt := inClass (top 29) 0
def d_Gone : He.DefD := ⟨("Gone", some "__init__"), "__init__", "Gone.__init__", defArgs s_Gone, defBody s_Gone, defScope s_Gone, [], []⟩
abbrev s_Taken : Stmt := inClass (top 31) 0
def d_Taken : He.DefD := ⟨("Taken", some "__init__"), "__init__", "Taken.__init__", defArgs s_Taken, defBody s_Taken, defScope s_Taken, [], []⟩
abbrev s_NoUnit : Stmt := inClass (top 32) 0
def d_NoUnit : He.DefD := ⟨("NoUnit", some "__init__"), "__init__", "NoUnit.__init__", defArgs s_NoUnit, defBody s_NoUnit, defScope s_NoUnit, [], []⟩
abbrev s_NoName : Stmt := inClass (top 33) 0
def d_NoName : He.DefD := ⟨("NoName", some "__init__"), "__init__", "NoName.__init__", defArgs s_NoName, defBody s_NoName, defScope s_NoName, [], []⟩
def fn : List He.DefD := [d_law_pen, d_law_draw, d_law_pick, d_law_value, d_law_signs, d_law_kinds, d_law_parted, d_law_valued, d_law_pairs_right, d_law, d_BadShape, d_BadTable, d_BadPart, d_BadQuestion, d_BadSpan, d_BadKind, d_BadLayout, d_BadRule, d_BadPlan, d_BadPoly, d_BadSites, d_BadOrder, d_BadVault, d_BadBook, d_BadPlace, d_BadAmount, d_BadUnit, d_BadCount, d_BadName, d_BadText, d_BadLine, d_TooMany, d_Untold, d_Gone, d_Taken, d_NoUnit, d_NoName]
/-- the classes, by their places in the text; of each the one above it -/
def nm : List Str := (["VaultError", "BadInput", "Refused", "NoAnswer", "BadShape", "BadTable", "BadPart", "BadQuestion", "BadSpan", "BadKind", "BadLayout", "BadRule"] : List Str) ++ ((["BadPlan", "BadPoly", "BadSites", "BadOrder", "BadVault", "BadBook", "BadPlace", "BadAmount", "BadUnit", "BadCount", "BadName", "BadText"] : List Str) ++ (["BadLine", "TooMany", "Untold", "Gone", "Torn", "Taken", "NoUnit", "NoName", "NoDeed"] : List Str))
def up : List Nat := [0, 0, 0, 0, 1, 1, 1, 1, 1, 1, 1, 1, 1, 1, 1, 1, 1, 1, 1, 1, 1, 1, 1, 1, 1, 2, 2, 2, 2, 2, 3, 3, 3]
/-- the i-th class stands below the j-th one, or is it -/
def isa (i j : Nat) : Bool := i == j || (up.getD i 0 == j || (up.getD (up.getD i 0) 0 == j))
def nmAt (i : Nat) : Str := nm.getD i Str.empty
def clsAll (K : PySem.W.Frag) : Bool := (List.range 33).all fun i => gloB K (nmAt i) && (clsB K (He.ga K (nmAt i)) && (List.range 33).all fun j => decide (PySem.W.kitOne K (.ref (He.ga K (nmAt i))) (.ref (He.ga K (nmAt j))) = some (isa i j)))
def inis : List (Str × List Str) := [("BadShape", (["part"] : List Str)), ("BadTable", (["part"] : List Str)), ("BadPart", (["part"] : List Str)), ("BadQuestion", (["part"] : List Str)), ("BadSpan", (["part"] : List Str)), ("BadKind", (["part"] : List Str)), ("BadLayout", (["part"] : List Str)), ("BadRule", (["part"] : List Str)), ("BadPlan", (["part"] : List Str)), ("BadPoly", (["part"] : List Str)), ("BadSites", (["part"] : List Str)), ("BadOrder", (["part"] : List Str)), ("BadVault", (["part"] : List Str)), ("BadBook", (["part"] : List Str)), ("BadPlace", (["value"] : List Str)), ("BadAmount", (["value"] : List Str)), ("BadUnit", (["value"] : List Str)), ("BadCount", (["value"] : List Str)), ("BadName", (["value"] : List Str)), ("BadText", (["line", "word"] : List Str)), ("BadLine", (["word"] : List Str)), ("TooMany", (["what", "most"] : List Str)), ("Untold", (["paper"] : List Str)), ("Gone", (["unit"] : List Str)), ("Taken", (["name"] : List Str)), ("NoUnit", (["unit"] : List Str)), ("NoName", (["name"] : List Str))]
def noIni : List Str := ["VaultError", "BadInput", "Refused", "NoAnswer", "Torn", "NoDeed"]
def frees : List Str := ["ValueError", "int", "list", "abs", "len", "isinstance", "repr", "range"]
def fns : List Str := ["_law_pen", "_law_draw", "_law_pick", "_law_value", "_law_signs", "_law_kinds", "_law_parted", "_law_valued", "_law_pairs_right", "law"]
def chk (K : PySem.W.Frag) : Bool := clsAll K && (inis.all (fun p => iniB K p.1 p.2) && (noIni.all (fun x => PySem.W.excIn K (He.ga K x) He.veBase "ValueError.__new__") && (frees.all (freeB K) && (fns.all (gloB K) && decide (PySem.W.kitOne K (.ref (He.ga K "VaultError")) (.type "ValueError") = some true)))))
abbrev R : PySem.W.OpenRow := PySem.W.OpenLaw.row PySem.Challenge.rw_rowvault_k00_errors_and_their_fields
abbrev hk : PySem.W.Hook := hookR 5 chk fn
def ob (s : PySem.W.SharedT) : He.AlD := obsRG 5 chk fn (HandSHeadRun.getT s)
theorem ob_eq (s : PySem.W.SharedT) : ob s = hk.obs s.abs := obsRG_eq (HandSHeadRun.getT_eq s)
def loose1 : List PySem.Str := ["_wall", "VaultError", "BadInput", "Refused", "NoAnswer", "BadShape", "BadTable", "BadPart", "BadQuestion", "BadSpan", "BadKind", "BadLayout", "BadRule", "BadPlan", "BadPoly", "BadSites", "BadOrder", "BadVault", "BadBook", "BadPlace", "BadAmount", "BadUnit", "BadCount", "BadName", "BadText", "BadLine", "TooMany", "Untold", "Gone", "Torn"]
def loose2 : List PySem.Str := ["Taken", "NoUnit", "NoName", "NoDeed", "_law_pen", "_law_draw", "_law_pick", "_law_value", "_law_signs", "_law_kinds", "_law_parted", "_law_valued", "_law_pairs_right"]
abbrev loose : List PySem.Str := loose1 ++ loose2
set_option maxHeartbeats 0 in
theorem run (w : World) : HandSHeadRun.RunEq R (PySem.W.view R.prog [45]) hk ob 9000 loose w := by
  intro os
  kernel_rfl
end L2.K00
set_option Elab.async false
set_option linter.all false
set_option maxRecDepth 100000
set_option maxHeartbeats 4000000
/-! What the top has left, and the pen. -/
namespace L2.K00
open PySem PySem.Spec PyProof.Rows L2.RV
/-- the i-th class stands here -/
def ca (K : PySem.W.Frag) (i : Nat) : Addr := He.ga K (nmAt i)
structure Top (K : PySem.W.Frag) (mg : Str → Option Value) : Prop where
  n_ValueError : mg "ValueError" = none
  n_int : mg "int" = none
  n_list : mg "list" = none
  n_abs : mg "abs" = none
  n_len : mg "len" = none
  n_isinstance : mg "isinstance" = none
  n_repr : mg "repr" = none
  n_range : mg "range" = none
  c_VaultError : mg "VaultError" = some (.ref (ca K 0))
  c_BadInput : mg "BadInput" = some (.ref (ca K 1))
  c_Refused : mg "Refused" = some (.ref (ca K 2))
  c_NoAnswer : mg "NoAnswer" = some (.ref (ca K 3))
  c_BadShape : mg "BadShape" = some (.ref (ca K 4))
  c_BadTable : mg "BadTable" = some (.ref (ca K 5))
  c_BadPart : mg "BadPart" = some (.ref (ca K 6))
  c_BadQuestion : mg "BadQuestion" = some (.ref (ca K 7))
  c_BadSpan : mg "BadSpan" = some (.ref (ca K 8))
  c_BadKind : mg "BadKind" = some (.ref (ca K 9))
  c_BadLayout : mg "BadLayout" = some (.ref (ca K 10))
  c_BadRule : mg "BadRule" = some (.ref (ca K 11))
  c_BadPlan : mg "BadPlan" = some (.ref (ca K 12))
  c_BadPoly : mg "BadPoly" = some (.ref (ca K 13))
  c_BadSites : mg "BadSites" = some (.ref (ca K 14))
  c_BadOrder : mg "BadOrder" = some (.ref (ca K 15))
  c_BadVault : mg "BadVault" = some (.ref (ca K 16))
  c_BadBook : mg "BadBook" = some (.ref (ca K 17))
  c_BadPlace : mg "BadPlace" = some (.ref (ca K 18))
  c_BadAmount : mg "BadAmount" = some (.ref (ca K 19))
  c_BadUnit : mg "BadUnit" = some (.ref (ca K 20))
  c_BadCount : mg "BadCount" = some (.ref (ca K 21))
  c_BadName : mg "BadName" = some (.ref (ca K 22))
  c_BadText : mg "BadText" = some (.ref (ca K 23))
  c_BadLine : mg "BadLine" = some (.ref (ca K 24))
  c_TooMany : mg "TooMany" = some (.ref (ca K 25))
  c_Untold : mg "Untold" = some (.ref (ca K 26))
  c_Gone : mg "Gone" = some (.ref (ca K 27))
  c_Torn : mg "Torn" = some (.ref (ca K 28))
  c_Taken : mg "Taken" = some (.ref (ca K 29))
  c_NoUnit : mg "NoUnit" = some (.ref (ca K 30))
  c_NoName : mg "NoName" = some (.ref (ca K 31))
  c_NoDeed : mg "NoDeed" = some (.ref (ca K 32))
  x_VaultError : PySem.W.excIn K (ca K 0) He.veBase "ValueError.__new__" = true
  o_VaultError : OexC K (ca K 0)
  x_BadInput : PySem.W.excIn K (ca K 1) He.veBase "ValueError.__new__" = true
  o_BadInput : OexC K (ca K 1)
  x_Refused : PySem.W.excIn K (ca K 2) He.veBase "ValueError.__new__" = true
  o_Refused : OexC K (ca K 2)
  x_NoAnswer : PySem.W.excIn K (ca K 3) He.veBase "ValueError.__new__" = true
  o_NoAnswer : OexC K (ca K 3)
  x_Torn : PySem.W.excIn K (ca K 28) He.veBase "ValueError.__new__" = true
  o_Torn : OexC K (ca K 28)
  x_NoDeed : PySem.W.excIn K (ca K 32) He.veBase "ValueError.__new__" = true
  o_NoDeed : OexC K (ca K 32)
  ex : ∀ i, i < 33 → ExcC K (ca K i) ∧ XfC K (ca K i)
  kin : ∀ i j, i < 33 → j < 33 → PySem.W.kitOne K (.ref (ca K i)) (.ref (ca K j)) = some (isa i j)
  ve : PySem.W.kitOne K (.ref (ca K 0)) (.type "ValueError") = some true
theorem top_of {K : PySem.W.Frag} {h : Heap} {mg : Str → Option Value} (X : K.In h) (G : h.Ns mainGlobals mg) (c : SaysR chk fn K) : Top K mg := by
  have all := c.look
  obtain ⟨cls, all⟩ := ba2 all
  obtain ⟨_, all⟩ := ba2 all
  obtain ⟨noi, all⟩ := ba2 all
  obtain ⟨fre, all⟩ := ba2 all
  obtain ⟨_, ve⟩ := ba2 all
  have one : ∀ i, i < 33 → gloB K (nmAt i) = true ∧ clsB K (ca K i) = true ∧ ∀ j, j < 33 → PySem.W.kitOne K (.ref (ca K i)) (.ref (ca K j)) = some (isa i j) := by
    intro i hi
    obtain ⟨a, b⟩ := ba2 (List.all_eq_true.mp cls i (List.mem_range.mpr hi))
    obtain ⟨b, d⟩ := ba2 b
    exact ⟨a, b, fun j hj => of_decide_eq_true (List.all_eq_true.mp d j (List.mem_range.mpr hj))⟩
  have glo : ∀ i, i < 33 → mg (nmAt i) = some (.ref (ca K i)) := fun i hi => gloB_ok X G (one i hi).1
  have fr : ∀ x, x ∈ frees → mg x = none := fun x hx => freeB_ok X G (List.all_eq_true.mp fre x hx)
  have ni : ∀ x, x ∈ noIni → PySem.W.excIn K (He.ga K x) He.veBase "ValueError.__new__" = true := fun x hx => List.all_eq_true.mp noi x hx
  exact {
    n_ValueError := fr _ (List.mem_of_getElem? (i := 0) rfl)
    n_int := fr _ (List.mem_of_getElem? (i := 1) rfl)
    n_list := fr _ (List.mem_of_getElem? (i := 2) rfl)
    n_abs := fr _ (List.mem_of_getElem? (i := 3) rfl)
    n_len := fr _ (List.mem_of_getElem? (i := 4) rfl)
    n_isinstance := fr _ (List.mem_of_getElem? (i := 5) rfl)
    n_repr := fr _ (List.mem_of_getElem? (i := 6) rfl)
    n_range := fr _ (List.mem_of_getElem? (i := 7) rfl)
    c_VaultError := glo 0 (by decide)
    c_BadInput := glo 1 (by decide)
    c_Refused := glo 2 (by decide)
    c_NoAnswer := glo 3 (by decide)
    c_BadShape := glo 4 (by decide)
    c_BadTable := glo 5 (by decide)
    c_BadPart := glo 6 (by decide)
    c_BadQuestion := glo 7 (by decide)
    c_BadSpan := glo 8 (by decide)
    c_BadKind := glo 9 (by decide)
    c_BadLayout := glo 10 (by decide)
    c_BadRule := glo 11 (by decide)
    c_BadPlan := glo 12 (by decide)
    c_BadPoly := glo 13 (by decide)
    c_BadSites := glo 14 (by decide)
    c_BadOrder := glo 15 (by decide)
    c_BadVault := glo 16 (by decide)
    c_BadBook := glo 17 (by decide)
    c_BadPlace := glo 18 (by decide)
    c_BadAmount := glo 19 (by decide)
    c_BadUnit := glo 20 (by decide)
    c_BadCount := glo 21 (by decide)
    c_BadName := glo 22 (by decide)
    c_BadText := glo 23 (by decide)
    c_BadLine := glo 24 (by decide)
    c_TooMany := glo 25 (by decide)
    c_Untold := glo 26 (by decide)
    c_Gone := glo 27 (by decide)
    c_Torn := glo 28 (by decide)
    c_Taken := glo 29 (by decide)
    c_NoUnit := glo 30 (by decide)
    c_NoName := glo 31 (by decide)
    c_NoDeed := glo 32 (by decide)
    x_VaultError := ni _ (List.mem_of_getElem? (i := 0) rfl)
    o_VaultError := (clsB_ok (one 0 (by decide)).2.1).1
    x_BadInput := ni _ (List.mem_of_getElem? (i := 1) rfl)
    o_BadInput := (clsB_ok (one 1 (by decide)).2.1).1
    x_Refused := ni _ (List.mem_of_getElem? (i := 2) rfl)
    o_Refused := (clsB_ok (one 2 (by decide)).2.1).1
    x_NoAnswer := ni _ (List.mem_of_getElem? (i := 3) rfl)
    o_NoAnswer := (clsB_ok (one 3 (by decide)).2.1).1
    x_Torn := ni _ (List.mem_of_getElem? (i := 4) rfl)
    o_Torn := (clsB_ok (one 28 (by decide)).2.1).1
    x_NoDeed := ni _ (List.mem_of_getElem? (i := 5) rfl)
    o_NoDeed := (clsB_ok (one 32 (by decide)).2.1).1
    ex := fun i hi => (clsB_ok (one i hi).2.1).2
    kin := fun i j hi hj => (one i hi).2.2 j hj
    ve := of_decide_eq_true ve }
section
variable {P : Program} {w : World} {K : PySem.W.Frag} {mg : Str → Option Value} {base h : Heap}
theorem def_of {x : Str} {k : Nat} {ps : List Str} {sp : Sp} {params : Arguments} {body : List Stmt} {scope : Scope} {fd : FuncData} (g : mg x = some (.ref (He.ga K x))) (F : FunD K x x params body scope [] [] (He.ga K x) fd)
    (b : ∀ (kV doc pm : Value) (an : Option Addr) (cdv ct : Value) (us : List Value), us.length = ps.length → bindArgs (PySem.W.fnOf x x params body scope .none kV doc pm an cdv ct) ⟨us, []⟩ = pure (ps.zip us)) (ok : FnOk P w K mg base CX0 k (He.ga K x) fd ps sp) : Def P w K mg base x k ps sp :=
  ⟨_, fd, g, F.kp, F.bindsN b, ok⟩
theorem bind_of {x qual : Str} {params : Arguments} {body : List Stmt} {scope : Scope} {f : Addr} {fd : FuncData} {args : Args} {bs : List (Str × Value)} (F : FunD K x qual params body scope [] [] f fd)
    (b : ∀ (kV doc pm : Value) (an : Option Addr) (cdv ct : Value), bindArgs (PySem.W.fnOf x qual params body scope .none kV doc pm an cdv ct) args = pure bs) (s : Shared) : BindsTo s fd args bs := by
  obtain ⟨oc, od, dV, kV, doc, pm, an, cdv, ct, osl, rfl, lk, hcd, hD, hK⟩ := F.ex
  rcases hD with ⟨_, rfl⟩ | ⟨e, _⟩
  · exact .of_eq (b kV doc pm an cdv ct)
  · exact absurd rfl e
theorem err_BadShape (X : K.In h) (G : h.Ns mainGlobals mg) (c : SaysR chk fn K) : Err1 P w K mg base "BadShape" "part" (ca K 4) := by
  obtain ⟨fd, F⟩ := c.def_ 10 (d := d_BadShape) rfl
  have T := top_of X G c
  obtain ⟨iC, tI, no⟩ := iniB_ok (List.all_eq_true.mp (ba2 (ba2 c.look).2).1 _ (List.mem_of_getElem? (i := 0) (a := (("BadShape" : Str), ([("part" : Str)] : List Str))) rfl))
  have o : OexC K (ca K 4) := (clsB_ok (ba2 (ba2 (List.all_eq_true.mp (ba2 c.look).1 4 (List.mem_range.mpr (by decide)))).2).1).1
  refine ⟨_, fd, ⟨T.c_BadShape, o, no, iC, tI, ok_init1 (p1 := _) (p2 := _) (q1 := _) (q2 := _) (q3 := _) (q4 := _) F ⟨rfl, rfl, rfl, by decide +kernel, rfl, by decide +kernel, by decide +kernel⟩ (by decide +kernel) (by decide +kernel) (by decide +kernel) (by decide +kernel) (fun _ => rfl)⟩, fun s u v _ => bind_of F (fun _ _ _ _ _ _ => rfl) s, fun s u v _ => bind_of F (fun _ _ _ _ _ _ => rfl) s⟩
theorem err_BadTable (X : K.In h) (G : h.Ns mainGlobals mg) (c : SaysR chk fn K) : Err1 P w K mg base "BadTable" "part" (ca K 5) := by
  obtain ⟨fd, F⟩ := c.def_ 11 (d := d_BadTable) rfl
  have T := top_of X G c
  obtain ⟨iC, tI, no⟩ := iniB_ok (List.all_eq_true.mp (ba2 (ba2 c.look).2).1 _ (List.mem_of_getElem? (i := 1) (a := (("BadTable" : Str), ([("part" : Str)] : List Str))) rfl))
  have o : OexC K (ca K 5) := (clsB_ok (ba2 (ba2 (List.all_eq_true.mp (ba2 c.look).1 5 (List.mem_range.mpr (by decide)))).2).1).1
  refine ⟨_, fd, ⟨T.c_BadTable, o, no, iC, tI, ok_init1 (p1 := _) (p2 := _) (q1 := _) (q2 := _) (q3 := _) (q4 := _) F ⟨rfl, rfl, rfl, by decide +kernel, rfl, by decide +kernel, by decide +kernel⟩ (by decide +kernel) (by decide +kernel) (by decide +kernel) (by decide +kernel) (fun _ => rfl)⟩, fun s u v _ => bind_of F (fun _ _ _ _ _ _ => rfl) s, fun s u v _ => bind_of F (fun _ _ _ _ _ _ => rfl) s⟩
theorem err_BadPart (X : K.In h) (G : h.Ns mainGlobals mg) (c : SaysR chk fn K) : Err1 P w K mg base "BadPart" "part" (ca K 6) := by
  obtain ⟨fd, F⟩ := c.def_ 12 (d := d_BadPart) rfl
  have T := top_of X G c
  obtain ⟨iC, tI, no⟩ := iniB_ok (List.all_eq_true.mp (ba2 (ba2 c.look).2).1 _ (List.mem_of_getElem? (i := 2) (a := (("BadPart" : Str), ([("part" : Str)] : List Str))) rfl))
  have o : OexC K (ca K 6) := (clsB_ok (ba2 (ba2 (List.all_eq_true.mp (ba2 c.look).1 6 (List.mem_range.mpr (by decide)))).2).1).1
  refine ⟨_, fd, ⟨T.c_BadPart, o, no, iC, tI, ok_init1 (p1 := _) (p2 := _) (q1 := _) (q2 := _) (q3 := _) (q4 := _) F ⟨rfl, rfl, rfl, by decide +kernel, rfl, by decide +kernel, by decide +kernel⟩ (by decide +kernel) (by decide +kernel) (by decide +kernel) (by decide +kernel) (fun _ => rfl)⟩, fun s u v _ => bind_of F (fun _ _ _ _ _ _ => rfl) s, fun s u v _ => bind_of F (fun _ _ _ _ _ _ => rfl) s⟩
theorem err_BadQuestion (X : K.In h) (G : h.Ns mainGlobals mg) (c : SaysR chk fn K) : Err1 P w K mg base "BadQuestion" "part" (ca K 7) := by
  obtain ⟨fd, F⟩ := c.def_ 13 (d := d_BadQuestion) rfl
  have T := top_of X G c
  obtain ⟨iC, tI, no⟩ := iniB_ok (List.all_eq_true.mp (ba2 (ba2 c.look).2).1 _ (List.mem_of_getElem? (i := 3) (a := (("BadQuestion" : Str), ([("part" : Str)] : List Str))) rfl))
  have o : OexC K (ca K 7) := (clsB_ok (ba2 (ba2 (List.all_eq_true.mp (ba2 c.look).1 7 (List.mem_range.mpr (by decide)))).2).1).1
  refine ⟨_, fd, ⟨T.c_BadQuestion, o, no, iC, tI, ok_init1 (p1 := _) (p2 := _) (q1 := _) (q2 := _) (q3 := _) (q4 := _) F ⟨rfl, rfl, rfl, by decide +kernel, rfl, by decide +kernel, by decide +kernel⟩ (by decide +kernel) (by decide +kernel) (by decide +kernel) (by decide +kernel) (fun _ => rfl)⟩, fun s u v _ => bind_of F (fun _ _ _ _ _ _ => rfl) s, fun s u v _ => bind_of F (fun _ _ _ _ _ _ => rfl) s⟩
theorem err_BadSpan (X : K.In h) (G : h.Ns mainGlobals mg) (c : SaysR chk fn K) : Err1 P w K mg base "BadSpan" "part" (ca K 8) := by
  obtain ⟨fd, F⟩ := c.def_ 14 (d := d_BadSpan) rfl
  have T := top_of X G c
  obtain ⟨iC, tI, no⟩ := iniB_ok (List.all_eq_true.mp (ba2 (ba2 c.look).2).1 _ (List.mem_of_getElem? (i := 4) (a := (("BadSpan" : Str), ([("part" : Str)] : List Str))) rfl))
  have o : OexC K (ca K 8) := (clsB_ok (ba2 (ba2 (List.all_eq_true.mp (ba2 c.look).1 8 (List.mem_range.mpr (by decide)))).2).1).1
  refine ⟨_, fd, ⟨T.c_BadSpan, o, no, iC, tI, ok_init1 (p1 := _) (p2 := _) (q1 := _) (q2 := _) (q3 := _) (q4 := _) F ⟨rfl, rfl, rfl, by decide +kernel, rfl, by decide +kernel, by decide +kernel⟩ (by decide +kernel) (by decide +kernel) (by decide +kernel) (by decide +kernel) (fun _ => rfl)⟩, fun s u v _ => bind_of F (fun _ _ _ _ _ _ => rfl) s, fun s u v _ => bind_of F (fun _ _ _ _ _ _ => rfl) s⟩
theorem err_BadKind (X : K.In h) (G : h.Ns mainGlobals mg) (c : SaysR chk fn K) : Err1 P w K mg base "BadKind" "part" (ca K 9) := by
  obtain ⟨fd, F⟩ := c.def_ 15 (d := d_BadKind) rfl
  have T := top_of X G c
  obtain ⟨iC, tI, no⟩ := iniB_ok (List.all_eq_true.mp (ba2 (ba2 c.look).2).1 _ (List.mem_of_getElem? (i := 5) (a := (("BadKind" : Str), ([("part" : Str)] : List Str))) rfl))
  have o : OexC K (ca K 9) := (clsB_ok (ba2 (ba2 (List.all_eq_true.mp (ba2 c.look).1 9 (List.mem_range.mpr (by decide)))).2).1).1
  refine ⟨_, fd, ⟨T.c_BadKind, o, no, iC, tI, ok_init1 (p1 := _) (p2 := _) (q1 := _) (q2 := _) (q3 := _) (q4 := _) F ⟨rfl, rfl, rfl, by decide +kernel, rfl, by decide +kernel, by decide +kernel⟩ (by decide +kernel) (by decide +kernel) (by decide +kernel) (by decide +kernel) (fun _ => rfl)⟩, fun s u v _ => bind_of F (fun _ _ _ _ _ _ => rfl) s, fun s u v _ => bind_of F (fun _ _ _ _ _ _ => rfl) s⟩
theorem err_BadLayout (X : K.In h) (G : h.Ns mainGlobals mg) (c : SaysR chk fn K) : Err1 P w K mg base "BadLayout" "part" (ca K 10) := by
  obtain ⟨fd, F⟩ := c.def_ 16 (d := d_BadLayout) rfl
  have T := top_of X G c
  obtain ⟨iC, tI, no⟩ := iniB_ok (List.all_eq_true.mp (ba2 (ba2 c.look).2).1 _ (List.mem_of_getElem? (i := 6) (a := (("BadLayout" : Str), ([("part" : Str)] : List Str))) rfl))
  have o : OexC K (ca K 10) := (clsB_ok (ba2 (ba2 (List.all_eq_true.mp (ba2 c.look).1 10 (List.mem_range.mpr (by decide)))).2).1).1
  refine ⟨_, fd, ⟨T.c_BadLayout, o, no, iC, tI, ok_init1 (p1 := _) (p2 := _) (q1 := _) (q2 := _) (q3 := _) (q4 := _) F ⟨rfl, rfl, rfl, by decide +kernel, rfl, by decide +kernel, by decide +kernel⟩ (by decide +kernel) (by decide +kernel) (by decide +kernel) (by decide +kernel) (fun _ => rfl)⟩, fun s u v _ => bind_of F (fun _ _ _ _ _ _ => rfl) s, fun s u v _ => bind_of F (fun _ _ _ _ _ _ => rfl) s⟩
theorem err_BadRule (X : K.In h) (G : h.Ns mainGlobals mg) (c : SaysR chk fn K) : Err1 P w K mg base "BadRule" "part" (ca K 11) := by
  obtain ⟨fd, F⟩ := c.def_ 17 (d := d_BadRule) rfl
  have T := top_of X G c
  obtain ⟨iC, tI, no⟩ := iniB_ok (List.all_eq_true.mp (ba2 (ba2 c.look).2).1 _ (List.mem_of_getElem? (i := 7) (a := (("BadRule" : Str), ([("part" : Str)] : List Str))) rfl))
  have o : OexC K (ca K 11) := (clsB_ok (ba2 (ba2 (List.all_eq_true.mp (ba2 c.look).1 11 (List.mem_range.mpr (by decide)))).2).1).1
  refine ⟨_, fd, ⟨T.c_BadRule, o, no, iC, tI, ok_init1 (p1 := _) (p2 := _) (q1 := _) (q2 := _) (q3 := _) (q4 := _) F ⟨rfl, rfl, rfl, by decide +kernel, rfl, by decide +kernel, by decide +kernel⟩ (by decide +kernel) (by decide +kernel) (by decide +kernel) (by decide +kernel) (fun _ => rfl)⟩, fun s u v _ => bind_of F (fun _ _ _ _ _ _ => rfl) s, fun s u v _ => bind_of F (fun _ _ _ _ _ _ => rfl) s⟩
theorem err_BadPlan (X : K.In h) (G : h.Ns mainGlobals mg) (c : SaysR chk fn K) : Err1 P w K mg base "BadPlan" "part" (ca K 12) := by
  obtain ⟨fd, F⟩ := c.def_ 18 (d := d_BadPlan) rfl
  have T := top_of X G c
  obtain ⟨iC, tI, no⟩ := iniB_ok (List.all_eq_true.mp (ba2 (ba2 c.look).2).1 _ (List.mem_of_getElem? (i := 8) (a := (("BadPlan" : Str), ([("part" : Str)] : List Str))) rfl))
  have o : OexC K (ca K 12) := (clsB_ok (ba2 (ba2 (List.all_eq_true.mp (ba2 c.look).1 12 (List.mem_range.mpr (by decide)))).2).1).1
  refine ⟨_, fd, ⟨T.c_BadPlan, o, no, iC, tI, ok_init1 (p1 := _) (p2 := _) (q1 := _) (q2 := _) (q3 := _) (q4 := _) F ⟨rfl, rfl, rfl, by decide +kernel, rfl, by decide +kernel, by decide +kernel⟩ (by decide +kernel) (by decide +kernel) (by decide +kernel) (by decide +kernel) (fun _ => rfl)⟩, fun s u v _ => bind_of F (fun _ _ _ _ _ _ => rfl) s, fun s u v _ => bind_of F (fun _ _ _ _ _ _ => rfl) s⟩
theorem err_BadPoly (X : K.In h) (G : h.Ns mainGlobals mg) (c : SaysR chk fn K) : Err1 P w K mg base "BadPoly" "part" (ca K 13) := by
  obtain ⟨fd, F⟩ := c.def_ 19 (d := d_BadPoly) rfl
  have T := top_of X G c
  obtain ⟨iC, tI, no⟩ := iniB_ok (List.all_eq_true.mp (ba2 (ba2 c.look).2).1 _ (List.mem_of_getElem? (i := 9) (a := (("BadPoly" : Str), ([("part" : Str)] : List Str))) rfl))
  have o : OexC K (ca K 13) := (clsB_ok (ba2 (ba2 (List.all_eq_true.mp (ba2 c.look).1 13 (List.mem_range.mpr (by decide)))).2).1).1
  refine ⟨_, fd, ⟨T.c_BadPoly, o, no, iC, tI, ok_init1 (p1 := _) (p2 := _) (q1 := _) (q2 := _) (q3 := _) (q4 := _) F ⟨rfl, rfl, rfl, by decide +kernel, rfl, by decide +kernel, by decide +kernel⟩ (by decide +kernel) (by decide +kernel) (by decide +kernel) (by decide +kernel) (fun _ => rfl)⟩, fun s u v _ => bind_of F (fun _ _ _ _ _ _ => rfl) s, fun s u v _ => bind_of F (fun _ _ _ _ _ _ => rfl) s⟩
theorem err_BadSites (X : K.In h) (G : h.Ns mainGlobals mg) (c : SaysR chk fn K) : Err1 P w K mg base "BadSites" "part" (ca K 14) := by
  obtain ⟨fd, F⟩ := c.def_ 20 (d := d_BadSites) rfl
  have T := top_of X G c
  obtain ⟨iC, tI, no⟩ := iniB_ok (List.all_eq_true.mp (ba2 (ba2 c.look).2).1 _ (List.mem_of_getElem? (i := 10) (a := (("BadSites" : Str), ([("part" : Str)] : List Str))) rfl))
  have o : OexC K (ca K 14) := (clsB_ok (ba2 (ba2 (List.all_eq_true.mp (ba2 c.look).1 14 (List.mem_range.mpr (by decide)))).2).1).1
  refine ⟨_, fd, ⟨T.c_BadSites, o, no, iC, tI, ok_init1 (p1 := _) (p2 := _) (q1 := _) (q2 := _) (q3 := _) (q4 := _) F ⟨rfl, rfl, rfl, by decide +kernel, rfl, by decide +kernel, by decide +kernel⟩ (by decide +kernel) (by decide +kernel) (by decide +kernel) (by decide +kernel) (fun _ => rfl)⟩, fun s u v _ => bind_of F (fun _ _ _ _ _ _ => rfl) s, fun s u v _ => bind_of F (fun _ _ _ _ _ _ => rfl) s⟩
theorem err_BadOrder (X : K.In h) (G : h.Ns mainGlobals mg) (c : SaysR chk fn K) : Err1 P w K mg base "BadOrder" "part" (ca K 15) := by
  obtain ⟨fd, F⟩ := c.def_ 21 (d := d_BadOrder) rfl
  have T := top_of X G c
  obtain ⟨iC, tI, no⟩ := iniB_ok (List.all_eq_true.mp (ba2 (ba2 c.look).2).1 _ (List.mem_of_getElem? (i := 11) (a := (("BadOrder" : Str), ([("part" : Str)] : List Str))) rfl))
  have o : OexC K (ca K 15) := (clsB_ok (ba2 (ba2 (List.all_eq_true.mp (ba2 c.look).1 15 (List.mem_range.mpr (by decide)))).2).1).1
  refine ⟨_, fd, ⟨T.c_BadOrder, o, no, iC, tI, ok_init1 (p1 := _) (p2 := _) (q1 := _) (q2 := _) (q3 := _) (q4 := _) F ⟨rfl, rfl, rfl, by decide +kernel, rfl, by decide +kernel, by decide +kernel⟩ (by decide +kernel) (by decide +kernel) (by decide +kernel) (by decide +kernel) (fun _ => rfl)⟩, fun s u v _ => bind_of F (fun _ _ _ _ _ _ => rfl) s, fun s u v _ => bind_of F (fun _ _ _ _ _ _ => rfl) s⟩
theorem err_BadVault (X : K.In h) (G : h.Ns mainGlobals mg) (c : SaysR chk fn K) : Err1 P w K mg base "BadVault" "part" (ca K 16) := by
  obtain ⟨fd, F⟩ := c.def_ 22 (d := d_BadVault) rfl
  have T := top_of X G c
  obtain ⟨iC, tI, no⟩ := iniB_ok (List.all_eq_true.mp (ba2 (ba2 c.look).2).1 _ (List.mem_of_getElem? (i := 12) (a := (("BadVault" : Str), ([("part" : Str)] : List Str))) rfl))
  have o : OexC K (ca K 16) := (clsB_ok (ba2 (ba2 (List.all_eq_true.mp (ba2 c.look).1 16 (List.mem_range.mpr (by decide)))).2).1).1
  refine ⟨_, fd, ⟨T.c_BadVault, o, no, iC, tI, ok_init1 (p1 := _) (p2 := _) (q1 := _) (q2 := _) (q3 := _) (q4 := _) F ⟨rfl, rfl, rfl, by decide +kernel, rfl, by decide +kernel, by decide +kernel⟩ (by decide +kernel) (by decide +kernel) (by decide +kernel) (by decide +kernel) (fun _ => rfl)⟩, fun s u v _ => bind_of F (fun _ _ _ _ _ _ => rfl) s, fun s u v _ => bind_of F (fun _ _ _ _ _ _ => rfl) s⟩
theorem err_BadBook (X : K.In h) (G : h.Ns mainGlobals mg) (c : SaysR chk fn K) : Err1 P w K mg base "BadBook" "part" (ca K 17) := by
  obtain ⟨fd, F⟩ := c.def_ 23 (d := d_BadBook) rfl
  have T := top_of X G c
  obtain ⟨iC, tI, no⟩ := iniB_ok (List.all_eq_true.mp (ba2 (ba2 c.look).2).1 _ (List.mem_of_getElem? (i := 13) (a := (("BadBook" : Str), ([("part" : Str)] : List Str))) rfl))
  have o : OexC K (ca K 17) := (clsB_ok (ba2 (ba2 (List.all_eq_true.mp (ba2 c.look).1 17 (List.mem_range.mpr (by decide)))).2).1).1
  refine ⟨_, fd, ⟨T.c_BadBook, o, no, iC, tI, ok_init1 (p1 := _) (p2 := _) (q1 := _) (q2 := _) (q3 := _) (q4 := _) F ⟨rfl, rfl, rfl, by decide +kernel, rfl, by decide +kernel, by decide +kernel⟩ (by decide +kernel) (by decide +kernel) (by decide +kernel) (by decide +kernel) (fun _ => rfl)⟩, fun s u v _ => bind_of F (fun _ _ _ _ _ _ => rfl) s, fun s u v _ => bind_of F (fun _ _ _ _ _ _ => rfl) s⟩
theorem err_BadPlace (X : K.In h) (G : h.Ns mainGlobals mg) (c : SaysR chk fn K) : Err1 P w K mg base "BadPlace" "value" (ca K 18) := by
  obtain ⟨fd, F⟩ := c.def_ 24 (d := d_BadPlace) rfl
  have T := top_of X G c
  obtain ⟨iC, tI, no⟩ := iniB_ok (List.all_eq_true.mp (ba2 (ba2 c.look).2).1 _ (List.mem_of_getElem? (i := 14) (a := (("BadPlace" : Str), ([("value" : Str)] : List Str))) rfl))
  have o : OexC K (ca K 18) := (clsB_ok (ba2 (ba2 (List.all_eq_true.mp (ba2 c.look).1 18 (List.mem_range.mpr (by decide)))).2).1).1
  refine ⟨_, fd, ⟨T.c_BadPlace, o, no, iC, tI, ok_init1 (p1 := _) (p2 := _) (q1 := _) (q2 := _) (q3 := _) (q4 := _) F ⟨rfl, rfl, rfl, by decide +kernel, rfl, by decide +kernel, by decide +kernel⟩ (by decide +kernel) (by decide +kernel) (by decide +kernel) (by decide +kernel) (fun _ => rfl)⟩, fun s u v _ => bind_of F (fun _ _ _ _ _ _ => rfl) s, fun s u v _ => bind_of F (fun _ _ _ _ _ _ => rfl) s⟩
theorem err_BadAmount (X : K.In h) (G : h.Ns mainGlobals mg) (c : SaysR chk fn K) : Err1 P w K mg base "BadAmount" "value" (ca K 19) := by
  obtain ⟨fd, F⟩ := c.def_ 25 (d := d_BadAmount) rfl
  have T := top_of X G c
  obtain ⟨iC, tI, no⟩ := iniB_ok (List.all_eq_true.mp (ba2 (ba2 c.look).2).1 _ (List.mem_of_getElem? (i := 15) (a := (("BadAmount" : Str), ([("value" : Str)] : List Str))) rfl))
  have o : OexC K (ca K 19) := (clsB_ok (ba2 (ba2 (List.all_eq_true.mp (ba2 c.look).1 19 (List.mem_range.mpr (by decide)))).2).1).1
  refine ⟨_, fd, ⟨T.c_BadAmount, o, no, iC, tI, ok_init1 (p1 := _) (p2 := _) (q1 := _) (q2 := _) (q3 := _) (q4 := _) F ⟨rfl, rfl, rfl, by decide +kernel, rfl, by decide +kernel, by decide +kernel⟩ (by decide +kernel) (by decide +kernel) (by decide +kernel) (by decide +kernel) (fun _ => rfl)⟩, fun s u v _ => bind_of F (fun _ _ _ _ _ _ => rfl) s, fun s u v _ => bind_of F (fun _ _ _ _ _ _ => rfl) s⟩
theorem err_BadUnit (X : K.In h) (G : h.Ns mainGlobals mg) (c : SaysR chk fn K) : Err1 P w K mg base "BadUnit" "value" (ca K 20) := by
  obtain ⟨fd, F⟩ := c.def_ 26 (d := d_BadUnit) rfl
  have T := top_of X G c
  obtain ⟨iC, tI, no⟩ := iniB_ok (List.all_eq_true.mp (ba2 (ba2 c.look).2).1 _ (List.mem_of_getElem? (i := 16) (a := (("BadUnit" : Str), ([("value" : Str)] : List Str))) rfl))
  have o : OexC K (ca K 20) := (clsB_ok (ba2 (ba2 (List.all_eq_true.mp (ba2 c.look).1 20 (List.mem_range.mpr (by decide)))).2).1).1
  refine ⟨_, fd, ⟨T.c_BadUnit, o, no, iC, tI, ok_init1 (p1 := _) (p2 := _) (q1 := _) (q2 := _) (q3 := _) (q4 := _) F ⟨rfl, rfl, rfl, by decide +kernel, rfl, by decide +kernel, by decide +kernel⟩ (by decide +kernel) (by decide +kernel) (by decide +kernel) (by decide +kernel) (fun _ => rfl)⟩, fun s u v _ => bind_of F (fun _ _ _ _ _ _ => rfl) s, fun s u v _ => bind_of F (fun _ _ _ _ _ _ => rfl) s⟩
theorem err_BadCount (X : K.In h) (G : h.Ns mainGlobals mg) (c : SaysR chk fn K) : Err1 P w K mg base "BadCount" "value" (ca K 21) := by
  obtain ⟨fd, F⟩ := c.def_ 27 (d := d_BadCount) rfl
  have T := top_of X G c
  obtain ⟨iC, tI, no⟩ := iniB_ok (List.all_eq_true.mp (ba2 (ba2 c.look).2).1 _ (List.mem_of_getElem? (i := 17) (a := (("BadCount" : Str), ([("value" : Str)] : List Str))) rfl))
  have o : OexC K (ca K 21) := (clsB_ok (ba2 (ba2 (List.all_eq_true.mp (ba2 c.look).1 21 (List.mem_range.mpr (by decide)))).2).1).1
  refine ⟨_, fd, ⟨T.c_BadCount, o, no, iC, tI, ok_init1 (p1 := _) (p2 := _) (q1 := _) (q2 := _) (q3 := _) (q4 := _) F ⟨rfl, rfl, rfl, by decide +kernel, rfl, by decide +kernel, by decide +kernel⟩ (by decide +kernel) (by decide +kernel) (by decide +kernel) (by decide +kernel) (fun _ => rfl)⟩, fun s u v _ => bind_of F (fun _ _ _ _ _ _ => rfl) s, fun s u v _ => bind_of F (fun _ _ _ _ _ _ => rfl) s⟩
theorem err_BadName (X : K.In h) (G : h.Ns mainGlobals mg) (c : SaysR chk fn K) : Err1 P w K mg base "BadName" "value" (ca K 22) := by
  obtain ⟨fd, F⟩ := c.def_ 28 (d := d_BadName) rfl
  have T := top_of X G c
  obtain ⟨iC, tI, no⟩ := iniB_ok (List.all_eq_true.mp (ba2 (ba2 c.look).2).1 _ (List.mem_of_getElem? (i := 18) (a := (("BadName" : Str), ([("value" : Str)] : List Str))) rfl))
  have o : OexC K (ca K 22) := (clsB_ok (ba2 (ba2 (List.all_eq_true.mp (ba2 c.look).1 22 (List.mem_range.mpr (by decide)))).2).1).1
  refine ⟨_, fd, ⟨T.c_BadName, o, no, iC, tI, ok_init1 (p1 := _) (p2 := _) (q1 := _) (q2 := _) (q3 := _) (q4 := _) F ⟨rfl, rfl, rfl, by decide +kernel, rfl, by decide +kernel, by decide +kernel⟩ (by decide +kernel) (by decide +kernel) (by decide +kernel) (by decide +kernel) (fun _ => rfl)⟩, fun s u v _ => bind_of F (fun _ _ _ _ _ _ => rfl) s, fun s u v _ => bind_of F (fun _ _ _ _ _ _ => rfl) s⟩
theorem err_BadText (X : K.In h) (G : h.Ns mainGlobals mg) (c : SaysR chk fn K) : Err2 P w K mg base "BadText" "line" "word" (ca K 23) := by
  obtain ⟨fd, F⟩ := c.def_ 29 (d := d_BadText) rfl
  have T := top_of X G c
  obtain ⟨iC, tI, no⟩ := iniB_ok (List.all_eq_true.mp (ba2 (ba2 c.look).2).1 _ (List.mem_of_getElem? (i := 19) (a := (("BadText" : Str), ([("line" : Str), ("word" : Str)] : List Str))) rfl))
  have o : OexC K (ca K 23) := (clsB_ok (ba2 (ba2 (List.all_eq_true.mp (ba2 c.look).1 23 (List.mem_range.mpr (by decide)))).2).1).1
  refine ⟨_, fd, ⟨T.c_BadText, o, no, iC, tI, ok_init2 F ⟨rfl, rfl, rfl, by decide +kernel, rfl, by decide +kernel, by decide +kernel⟩ (by decide +kernel) (by decide +kernel) (by decide +kernel) (by decide +kernel) (by decide +kernel) (by decide +kernel) (by decide +kernel) (by decide +kernel) (fun _ => rfl) (fun _ => rfl)⟩, fun s u v v' _ => bind_of F (fun _ _ _ _ _ _ => rfl) s, fun s u v v' _ => bind_of F (fun _ _ _ _ _ _ => rfl) s⟩
theorem err_BadLine (X : K.In h) (G : h.Ns mainGlobals mg) (c : SaysR chk fn K) : Err1 P w K mg base "BadLine" "word" (ca K 24) := by
  obtain ⟨fd, F⟩ := c.def_ 30 (d := d_BadLine) rfl
  have T := top_of X G c
  obtain ⟨iC, tI, no⟩ := iniB_ok (List.all_eq_true.mp (ba2 (ba2 c.look).2).1 _ (List.mem_of_getElem? (i := 20) (a := (("BadLine" : Str), ([("word" : Str)] : List Str))) rfl))
  have o : OexC K (ca K 24) := (clsB_ok (ba2 (ba2 (List.all_eq_true.mp (ba2 c.look).1 24 (List.mem_range.mpr (by decide)))).2).1).1
  refine ⟨_, fd, ⟨T.c_BadLine, o, no, iC, tI, ok_init1 (p1 := _) (p2 := _) (q1 := _) (q2 := _) (q3 := _) (q4 := _) F ⟨rfl, rfl, rfl, by decide +kernel, rfl, by decide +kernel, by decide +kernel⟩ (by decide +kernel) (by decide +kernel) (by decide +kernel) (by decide +kernel) (fun _ => rfl)⟩, fun s u v _ => bind_of F (fun _ _ _ _ _ _ => rfl) s, fun s u v _ => bind_of F (fun _ _ _ _ _ _ => rfl) s⟩
theorem err_TooMany (X : K.In h) (G : h.Ns mainGlobals mg) (c : SaysR chk fn K) : Err2 P w K mg base "TooMany" "what" "most" (ca K 25) := by
  obtain ⟨fd, F⟩ := c.def_ 31 (d := d_TooMany) rfl
  have T := top_of X G c
  obtain ⟨iC, tI, no⟩ := iniB_ok (List.all_eq_true.mp (ba2 (ba2 c.look).2).1 _ (List.mem_of_getElem? (i := 21) (a := (("TooMany" : Str), ([("what" : Str), ("most" : Str)] : List Str))) rfl))
  have o : OexC K (ca K 25) := (clsB_ok (ba2 (ba2 (List.all_eq_true.mp (ba2 c.look).1 25 (List.mem_range.mpr (by decide)))).2).1).1
  refine ⟨_, fd, ⟨T.c_TooMany, o, no, iC, tI, ok_init2 F ⟨rfl, rfl, rfl, by decide +kernel, rfl, by decide +kernel, by decide +kernel⟩ (by decide +kernel) (by decide +kernel) (by decide +kernel) (by decide +kernel) (by decide +kernel) (by decide +kernel) (by decide +kernel) (by decide +kernel) (fun _ => rfl) (fun _ => rfl)⟩, fun s u v v' _ => bind_of F (fun _ _ _ _ _ _ => rfl) s, fun s u v v' _ => bind_of F (fun _ _ _ _ _ _ => rfl) s⟩
theorem err_Untold (X : K.In h) (G : h.Ns mainGlobals mg) (c : SaysR chk fn K) : Err1 P w K mg base "Untold" "paper" (ca K 26) := by
  obtain ⟨fd, F⟩ := c.def_ 32 (d := d_Untold) rfl
  have T := top_of X G c
  obtain ⟨iC, tI, no⟩ := iniB_ok (List.all_eq_true.mp (ba2 (ba2 c.look).2).1 _ (List.mem_of_getElem? (i := 22) (a := (("Untold" : Str), ([("paper" : Str)] : List Str))) rfl))
  have o : OexC K (ca K 26) := (clsB_ok (ba2 (ba2 (List.all_eq_true.mp (ba2 c.look).1 26 (List.mem_range.mpr (by decide)))).2).1).1
  refine ⟨_, fd, ⟨T.c_Untold, o, no, iC, tI, ok_init1 (p1 := _) (p2 := _) (q1 := _) (q2 := _) (q3 := _) (q4 := _) F ⟨rfl, rfl, rfl, by decide +kernel, rfl, by decide +kernel, by decide +kernel⟩ (by decide +kernel) (by decide +kernel) (by decide +kernel) (by decide +kernel) (fun _ => rfl)⟩, fun s u v _ => bind_of F (fun _ _ _ _ _ _ => rfl) s, fun s u v _ => bind_of F (fun _ _ _ _ _ _ => rfl) s⟩
theorem err_Gone (X : K.In h) (G : h.Ns mainGlobals mg) (c : SaysR chk fn K) : Err1 P w K mg base "Gone" "unit" (ca K 27) := by
  obtain ⟨fd, F⟩ := c.def_ 33 (d := d_Gone) rfl
  have T := top_of X G c
  obtain ⟨iC, tI, no⟩ := iniB_ok (List.all_eq_true.mp (ba2 (ba2 c.look).2).1 _ (List.mem_of_getElem? (i := 23) (a := (("Gone" : Str), ([("unit" : Str)] : List Str))) rfl))
  have o : OexC K (ca K 27) := (clsB_ok (ba2 (ba2 (List.all_eq_true.mp (ba2 c.look).1 27 (List.mem_range.mpr (by decide)))).2).1).1
  refine ⟨_, fd, ⟨T.c_Gone, o, no, iC, tI, ok_init1 (p1 := _) (p2 := _) (q1 := _) (q2 := _) (q3 := _) (q4 := _) F ⟨rfl, rfl, rfl, by decide +kernel, rfl, by decide +kernel, by decide +kernel⟩ (by decide +kernel) (by decide +kernel) (by decide +kernel) (by decide +kernel) (fun _ => rfl)⟩, fun s u v _ => bind_of F (fun _ _ _ _ _ _ => rfl) s, fun s u v _ => bind_of F (fun _ _ _ _ _ _ => rfl) s⟩
theorem err_Taken (X : K.In h) (G : h.Ns mainGlobals mg) (c : SaysR chk fn K) : Err1 P w K mg base "Taken" "name" (ca K 29) := by
  obtain ⟨fd, F⟩ := c.def_ 34 (d := d_Taken) rfl
  have T := top_of X G c
  obtain ⟨iC, tI, no⟩ := iniB_ok (List.all_eq_true.mp (ba2 (ba2 c.look).2).1 _ (List.mem_of_getElem? (i := 24) (a := (("Taken" : Str), ([("name" : Str)] : List Str))) rfl))
  have o : OexC K (ca K 29) := (clsB_ok (ba2 (ba2 (List.all_eq_true.mp (ba2 c.look).1 29 (List.mem_range.mpr (by decide)))).2).1).1
  refine ⟨_, fd, ⟨T.c_Taken, o, no, iC, tI, ok_init1 (p1 := _) (p2 := _) (q1 := _) (q2 := _) (q3 := _) (q4 := _) F ⟨rfl, rfl, rfl, by decide +kernel, rfl, by decide +kernel, by decide +kernel⟩ (by decide +kernel) (by decide +kernel) (by decide +kernel) (by decide +kernel) (fun _ => rfl)⟩, fun s u v _ => bind_of F (fun _ _ _ _ _ _ => rfl) s, fun s u v _ => bind_of F (fun _ _ _ _ _ _ => rfl) s⟩
theorem err_NoUnit (X : K.In h) (G : h.Ns mainGlobals mg) (c : SaysR chk fn K) : Err1 P w K mg base "NoUnit" "unit" (ca K 30) := by
  obtain ⟨fd, F⟩ := c.def_ 35 (d := d_NoUnit) rfl
  have T := top_of X G c
  obtain ⟨iC, tI, no⟩ := iniB_ok (List.all_eq_true.mp (ba2 (ba2 c.look).2).1 _ (List.mem_of_getElem? (i := 25) (a := (("NoUnit" : Str), ([("unit" : Str)] : List Str))) rfl))
  have o : OexC K (ca K 30) := (clsB_ok (ba2 (ba2 (List.all_eq_true.mp (ba2 c.look).1 30 (List.mem_range.mpr (by decide)))).2).1).1
  refine ⟨_, fd, ⟨T.c_NoUnit, o, no, iC, tI, ok_init1 (p1 := _) (p2 := _) (q1 := _) (q2 := _) (q3 := _) (q4 := _) F ⟨rfl, rfl, rfl, by decide +kernel, rfl, by decide +kernel, by decide +kernel⟩ (by decide +kernel) (by decide +kernel) (by decide +kernel) (by decide +kernel) (fun _ => rfl)⟩, fun s u v _ => bind_of F (fun _ _ _ _ _ _ => rfl) s, fun s u v _ => bind_of F (fun _ _ _ _ _ _ => rfl) s⟩
theorem err_NoName (X : K.In h) (G : h.Ns mainGlobals mg) (c : SaysR chk fn K) : Err1 P w K mg base "NoName" "name" (ca K 31) := by
  obtain ⟨fd, F⟩ := c.def_ 36 (d := d_NoName) rfl
  have T := top_of X G c
  obtain ⟨iC, tI, no⟩ := iniB_ok (List.all_eq_true.mp (ba2 (ba2 c.look).2).1 _ (List.mem_of_getElem? (i := 26) (a := (("NoName" : Str), ([("name" : Str)] : List Str))) rfl))
  have o : OexC K (ca K 31) := (clsB_ok (ba2 (ba2 (List.all_eq_true.mp (ba2 c.look).1 31 (List.mem_range.mpr (by decide)))).2).1).1
  refine ⟨_, fd, ⟨T.c_NoName, o, no, iC, tI, ok_init1 (p1 := _) (p2 := _) (q1 := _) (q2 := _) (q3 := _) (q4 := _) F ⟨rfl, rfl, rfl, by decide +kernel, rfl, by decide +kernel, by decide +kernel⟩ (by decide +kernel) (by decide +kernel) (by decide +kernel) (by decide +kernel) (fun _ => rfl)⟩, fun s u v _ => bind_of F (fun _ _ _ _ _ _ => rfl) s, fun s u v _ => bind_of F (fun _ _ _ _ _ _ => rfl) s⟩
end
end L2.K00
set_option Elab.async false
set_option linter.all false
set_option maxRecDepth 100000
set_option maxHeartbeats 4000000
/-! The pen's defs keep their promises. -/
namespace L2.K00
open PySem PySem.Spec PyProof.Rows L2.RV
section
variable {P : Program} {w : World} {K : PySem.W.Frag} {mg : Str → Option Value} {base : Heap} {fd : FuncData}
abbrev Fn (K : PySem.W.Frag) (x : Str) (st : Stmt) (fd : FuncData) : Prop := FunD K x x (defArgs st) (defBody st) (defScope st) [] [] (He.ga K x) fd
theorem ok_law_pen (T : Top K mg) (F : Fn K "_law_pen" s_law_pen fd) : FnOk P w K mg base CX0 1 (He.ga K "_law_pen") fd ["_law_script"] (spPen K) := by
  refine F.ok sc_law_pen (fun vs H Q E h => ?_) (fun cdv A outer s H vs Q E hr h => ?_)
  · obtain ⟨a, ns, rfl, _⟩ := h
    rfl
  · obtain ⟨a, ns, rfl, hS, few, k⟩ := h
    refine ⟨_, PSs.nox (pss_one (ps_ret (pe_lstN (pa_cons (pe_callTy call_list_of rfl T.n_list (by decide +kernel) (pa_cons (pe_slice sl_list (pv 0) po_none (po_some pe_int)) pa_nil)) (pa_cons pe_int (pa_cons pe_int pa_nil)))))), ?_⟩
    obtain ⟨ms, em, lm⟩ := cut_ints ns none (some 63)
    refine ⟨_, rfl, 63, rfl, a, _, rfl, hS, fun q1 h1 => ?_⟩
    refine ⟨q1, _, rfl, .inl (SqL.of upd_same), fun q2 h2 => ?_⟩
    refine ⟨by show 3 ≤ sizeLine; decide, fun p hp hs => ?_⟩
    have n21 : q2 ≠ p := fun z => by
      rw [← z, upd_same] at hp
      cases hp
    have n2 : H q2 = none := by
      have z := h2
      have ne : q2 ≠ q1 := fun y => by
        rw [y, upd_same] at z
        cases z
      rw [upd_ne ne] at z
      exact z
    have np : H p = none := (Same.trans (same_new h1) (same_new h2)).free hp
    exact k _ p q2 ms ((Same.trans (same_new h1) (same_new h2)).trans (same_new hp)) np ⟨upd_same, by rw [upd_ne n21, upd_same, em], n21, by omega, Int.le_refl 0, Int.le_refl 0⟩
theorem ok_law_draw (T : Top K mg) (F : Fn K "_law_draw" s_law_draw fd) : FnOk P w K mg base CX0 1 (He.ga K "_law_draw") fd ["_law_pen_here", "_law_many"] spDraw := by
  refine F.ok sc_law_draw (fun vs H Q E h => ?_) (fun cdv A outer s H vs Q E hr h => ?_)
  · obtain ⟨p, l, ns, a, r, m, rfl, _⟩ := h
    rfl
  · obtain ⟨p, l, ns, a, r, m, rfl, pa, ha, m0, m1, k⟩ := h
    have hu := hr.units
    have a0 := pa.from0
    have r0 := pa.rest0
    refine ⟨_, PSs.nox (pss_cons (ps_if (pt_cmpR op_gt (pe_ix ix_seq (pv 0) pe_int (fun _ _ => rfl)) pe_int (nomark _)) (pss_cons (ps_set (i := 5) sc_law_draw.nd rfl (Or.inl rfl) (pe_op op_mod (pe_callTy call_int1 rfl T.n_int (by decide +kernel) (pa_cons (pe_ix ix_seq (pv 0) pe_int (fun _ _ => rfl)) pa_nil)) (pv 1)))
      (pss_cons (ps_asg (pe_op op_fdiv (pe_callTy call_int1 rfl T.n_int (by decide +kernel) (pa_cons (pe_ix ix_seq (pv 0) pe_int (fun _ _ => rfl)) pa_nil)) (pv 1)) (pg_sub (pv 0) pe_int set_list))
      (pss_one (ps_ret (pv 5))))) pss_nil)
      (pss_cons (ps_set (i := 2) sc_law_draw.nd rfl (Or.inl rfl) (pe_ix ix_seq (pv 0) pe_int (fun _ _ => rfl)))
      (pss_cons (ps_asg (pe_op op_plus (pv 2) pe_int) (pg_sub (pv 0) pe_int set_list))
      (pss_cons (ps_set (i := 3) sc_law_draw.nd rfl (Or.inl rfl) (pe_op op_plus (pe_op op_times pe_int (pv 2)) pe_int))
      (pss_cons (ps_if (pt_cmpR (op_diff hu) (pe_ix ix_seq (pv 0) pe_int (fun _ _ => rfl)) (pe_lstN pa_nil) (nomark _)) (pss_one (ps_set (i := 3) sc_law_draw.nd rfl (Or.inl rfl) (pe_ix ix_seq (pe_ix ix_seq (pv 0) pe_int (fun _ _ => rfl)) (pe_op op_mod (pe_callTy call_int1 rfl T.n_int (by decide +kernel) (pa_cons (pv 2) pa_nil)) (pe_callB call_len rfl T.n_len (by decide +kernel) (pa_cons (pe_ix ix_seq (pv 0) pe_int (fun _ _ => rfl)) pa_nil))) (fun _ _ => rfl)))) pss_nil)
      (pss_cons (ps_if (PW.pt (pw_and (pt_cmpR op_lt (pv 2) (pe_callB call_len rfl T.n_len (by decide +kernel) (pa_cons (pe_ix ix_seq (pv 0) pe_int (fun _ _ => rfl)) pa_nil)) (nomark _)) (pw_and1 (pt_cmpR op_ge (pe_callB call_abs rfl T.n_abs (by decide +kernel) (pa_cons (pv 3) pa_nil)) (pe_op op_pow pe_int pe_int) (nomark _))))) (pss_cons (ps_set (i := 6) sc_law_draw.nd rfl (Or.inl rfl) (pe_op op_plus (pe_op op_times pe_int (pe_op op_sub (pe_callB call_abs rfl T.n_abs (by decide +kernel) (pa_cons (pv 3) pa_nil)) (pe_op op_pow pe_int pe_int))) (pe_callTy call_int1 rfl T.n_int (by decide +kernel) (pa_cons (pe_cmpR op_lt (pv 3) pe_int (nomark _)) pa_nil))))
      (pss_cons (ps_asg (pe_op op_fdiv (pe_callTy call_int1 rfl T.n_int (by decide +kernel) (pa_cons (pv 6) pa_nil)) (pv 1)) (pg_sub (pv 0) pe_int set_list))
      (pss_one (ps_ret (pe_op op_mod (pe_callTy call_int1 rfl T.n_int (by decide +kernel) (pa_cons (pv 6) pa_nil)) (pv 1)))))) pss_nil)
      (pss_cons (ps_set (i := 4) sc_law_draw.nd rfl (Or.inl rfl) (pe_op op_mod (pe_callTy call_int1 rfl T.n_int (by decide +kernel) (pa_cons (pe_op op_pow (pe_op op_plus (pe_op op_plus (pe_op op_mod (pe_callTy call_int1 rfl T.n_int (by decide +kernel) (pa_cons (pv 3) pa_nil)) pe_int) (pe_op op_times pe_int (pv 2))) pe_int) pe_int) pa_nil)) pe_int))
      (pss_cons (ps_set (i := 4) sc_law_draw.nd rfl (Or.inl rfl) (pe_op op_mod (pe_callTy call_int1 rfl T.n_int (by decide +kernel) (pa_cons (pe_op op_pow (pe_op op_plus (pe_op op_plus (pe_op op_times (pv 4) (pe_op op_plus (pe_op op_times pe_int (pv 2)) pe_int)) (pe_op op_times (pe_op op_times pe_int (pv 2)) (pv 2))) pe_int) pe_int) pa_nil)) pe_int))
      (pss_one (ps_ret (pe_op op_mod (pe_callTy call_int1 rfl T.n_int (by decide +kernel) (pa_cons (pe_op op_fdiv (pv 4) pe_int) pa_nil)) (pv 1)))))))))))), ?_⟩
    refine ⟨_, rfl, rd_ix pa.pen rfl ⟨_, _, rfl, rfl, _, rfl, ?_⟩⟩
    refine ite2 (fun c => ?_) (fun c => ?_)
    · -- a digit of what is left
      refine ⟨_, rfl, rd_ix pa.pen rfl (.inl ⟨_, rfl, _, rfl, _, _, rfl, rfl, m0, ?_⟩)⟩
      refine ⟨_, rfl, rd_ix pa.pen rfl (.inl ⟨_, rfl, _, rfl, _, _, rfl, rfl, ⟨m0, m1⟩, ?_⟩)⟩
      refine ⟨_, rfl, rd_set [.ref l, .int a, .int (r / m)] pa.pen rfl rfl ?_⟩
      refine ⟨_, rfl, ?_⟩
      exact k _ a (r / m) (r % m) Keep.upd ⟨upd_same, by rw [upd_ne pa.ne]; exact pa.nums, pa.ne, pa.few, pa.from0, Int.ediv_nonneg r0 (by omega)⟩ (by omega) (Int.emod_nonneg _ (by omega)) (Int.emod_lt_of_pos _ m0)
    · refine ⟨_, rfl, rd_ix pa.pen rfl ?_⟩
      refine ⟨_, rfl, .inl ⟨_, _, rfl, rfl, ?_⟩⟩
      refine ⟨_, rfl, rd_set [.ref l, .int (a + 1), .int r] pa.pen rfl rfl ?_⟩
      have p1 : PenAt (upd H p (.lst [.ref l, .int (a + 1), .int r])) p l ns (a + 1) r := ⟨upd_same, by rw [upd_ne pa.ne]; exact pa.nums, pa.ne, pa.few, by omega, r0⟩
      have k1 : Keep p H (upd H p (.lst [.ref l, .int (a + 1), .int r])) := Keep.upd
      generalize upd H p (.lst [.ref l, .int (a + 1), .int r]) = H1 at p1 k1 ⊢
      refine ⟨_, rfl, .inl ⟨_, _, rfl, rfl, cmulL (by decide) (by decide), .inl ⟨_, _, rfl, rfl, ?_⟩⟩⟩
      refine ⟨_, rfl, rd_ix p1.pen rfl ⟨Nat.zero_le _, fun q hq _ => .inr ⟨_, _, .lst (SqL.of (same_new hq _ _ p1.nums)) (dpA_int ns), .lst (SqL.of upd_same) .nil, shaped_int ns, by decide, _, rfl, ?_⟩⟩⟩
      have p2 := p1.same (same_new (o := .lst []) hq)
      have k2 : Keep p H (upd H1 q (.lst [])) := k1.trans (.of (same_new hq))
      generalize upd H1 q (.lst []) = H2 at p2 k2 ⊢
      refine ite2 (fun c => ?_) (fun c => ?_)
      · have pos : 0 < ns.length := by
          rw [no_ints] at c
          cases ns with
          | nil => simp at c
          | cons n ns => exact Nat.succ_pos _
        obtain ⟨cell, hcell⟩ := atI_mod (a := a) pos a0
        have pos' : (0 : Int) < (((ns.map V.int).length : Nat) : Int) := by rw [List.length_map]; omega
        refine ⟨_, rfl, rd_ix p2.pen rfl ⟨_, rfl, .inl ⟨_, rfl, _, rfl, rd_ix p2.pen rfl ⟨_, _, rfl, .inl ⟨_, SqL.of p2.nums, rfl⟩, _, _, rfl, rfl, pos', rd_ix p2.nums hcell ?_⟩⟩⟩⟩
        refine ⟨_, rfl, _, rfl, rd_ix p2.pen rfl ⟨_, _, rfl, .inl ⟨_, SqL.of p2.nums, rfl⟩, _, _, rfl, rfl, _, rfl, ?_⟩⟩
        refine ite2 (fun c1 => ?_) (fun c1 => ?_)
        · refine ⟨_, rfl, _, rfl, _, _, rfl, rfl, c18, _, _, rfl, rfl, _, rfl, ?_⟩
          refine ite2 (fun c2 => ?_) (fun c2 => ?_)
          · refine ⟨_, rfl, _, rfl, _, _, rfl, rfl, c18, _, _, rfl, rfl, .inl ⟨_, _, rfl, rfl, cmulL (by decide) (by decide), _, rfl, _, _, rfl, rfl, .inr ⟨_, rfl, .inl ⟨_, _, rfl, rfl, ?_⟩⟩⟩⟩
            refine ⟨_, rfl, .inl ⟨_, rfl, _, rfl, _, _, rfl, rfl, ⟨m0, m1⟩, ?_⟩⟩
            refine ⟨_, rfl, rd_set [.ref l, .int (a + 1), .int _] p2.pen rfl rfl ?_⟩
            refine ⟨_, rfl, .inl ⟨_, rfl, _, rfl, _, _, rfl, rfl, m0, ?_⟩⟩
            refine k _ (a + 1) _ _ (k2.trans Keep.upd) ⟨upd_same, by rw [upd_ne p2.ne]; exact p2.nums, p2.ne, p2.few, by omega, Int.ediv_nonneg ?_ (by omega)⟩ (by omega) (Int.emod_nonneg _ (by omega)) (Int.emod_lt_of_pos _ m0)
            have c2' := of_decide_eq_true c2
            rw [e18] at c2' ⊢
            split <;> omega
          · refine ⟨_, rfl, .inl ⟨_, rfl, _, _, rfl, rfl, (by show (0 : Int) < _; decide), _, rfl, .inl ⟨_, _, rfl, rfl, cmulL (by decide) (by decide), .inl ⟨_, _, rfl, rfl, .inl ⟨_, _, rfl, rfl, _, _, rfl, rfl, cpow5 (by omega) (by omega), .inl ⟨_, rfl, _, _, rfl, rfl, (by show (0 : Int) < _; decide), ?_⟩⟩⟩⟩⟩⟩
            refine ⟨_, rfl, _, rfl, .inl ⟨_, _, rfl, rfl, cmulL (by decide) (by decide), .inl ⟨_, _, rfl, rfl, .inl ⟨_, _, rfl, rfl, cmulL (Int.emod_nonneg _ (by decide)) (by omega), _, rfl, .inl ⟨_, _, rfl, rfl, cmulL (by decide) (by decide), _, rfl, .inl ⟨_, _, rfl, rfl, cmulL (by omega) (by omega), .inl ⟨_, _, rfl, rfl, .inl ⟨_, _, rfl, rfl, _, _, rfl, rfl, cpow3 (by omega) (by omega) (by omega) (by omega) (by omega) (by omega) a0 ha (by decide) (by decide), .inl ⟨_, rfl, _, _, rfl, rfl, (by show (0 : Int) < _; decide), ?_⟩⟩⟩⟩⟩⟩⟩⟩⟩
            refine ⟨_, rfl, _, _, rfl, rfl, ⟨by decide, by decide⟩, .inl ⟨_, rfl, _, rfl, _, _, rfl, rfl, m0, ?_⟩⟩
            exact k _ (a + 1) r _ k2 p2 (Int.le_refl _) (Int.emod_nonneg _ (by omega)) (Int.emod_lt_of_pos _ m0)
        · refine iteF ?_
          refine ⟨_, rfl, .inl ⟨_, rfl, _, _, rfl, rfl, (by show (0 : Int) < _; decide), _, rfl, .inl ⟨_, _, rfl, rfl, cmulL (by decide) (by decide), .inl ⟨_, _, rfl, rfl, .inl ⟨_, _, rfl, rfl, _, _, rfl, rfl, cpow5 (by omega) (by omega), .inl ⟨_, rfl, _, _, rfl, rfl, (by show (0 : Int) < _; decide), ?_⟩⟩⟩⟩⟩⟩
          refine ⟨_, rfl, _, rfl, .inl ⟨_, _, rfl, rfl, cmulL (by decide) (by decide), .inl ⟨_, _, rfl, rfl, .inl ⟨_, _, rfl, rfl, cmulL (Int.emod_nonneg _ (by decide)) (by omega), _, rfl, .inl ⟨_, _, rfl, rfl, cmulL (by decide) (by decide), _, rfl, .inl ⟨_, _, rfl, rfl, cmulL (by omega) (by omega), .inl ⟨_, _, rfl, rfl, .inl ⟨_, _, rfl, rfl, _, _, rfl, rfl, cpow3 (by omega) (by omega) (by omega) (by omega) (by omega) (by omega) a0 ha (by decide) (by decide), .inl ⟨_, rfl, _, _, rfl, rfl, (by show (0 : Int) < _; decide), ?_⟩⟩⟩⟩⟩⟩⟩⟩⟩
          refine ⟨_, rfl, _, _, rfl, rfl, ⟨by decide, by decide⟩, .inl ⟨_, rfl, _, rfl, _, _, rfl, rfl, m0, ?_⟩⟩
          exact k _ (a + 1) r _ k2 p2 (Int.le_refl _) (Int.emod_nonneg _ (by omega)) (Int.emod_lt_of_pos _ m0)
      · refine ⟨_, rfl, _, rfl, rd_ix p2.pen rfl ⟨_, _, rfl, .inl ⟨_, SqL.of p2.nums, rfl⟩, _, _, rfl, rfl, _, rfl, ?_⟩⟩
        refine ite2 (fun c1 => ?_) (fun c1 => ?_)
        · refine ⟨_, rfl, _, rfl, _, _, rfl, rfl, c18, _, _, rfl, rfl, _, rfl, ?_⟩
          refine ite2 (fun c2 => ?_) (fun c2 => ?_)
          · refine ⟨_, rfl, _, rfl, _, _, rfl, rfl, c18, _, _, rfl, rfl, .inl ⟨_, _, rfl, rfl, cmulL (by decide) (by decide), _, rfl, _, _, rfl, rfl, .inr ⟨_, rfl, .inl ⟨_, _, rfl, rfl, ?_⟩⟩⟩⟩
            refine ⟨_, rfl, .inl ⟨_, rfl, _, rfl, _, _, rfl, rfl, ⟨m0, m1⟩, ?_⟩⟩
            refine ⟨_, rfl, rd_set [.ref l, .int (a + 1), .int _] p2.pen rfl rfl ?_⟩
            refine ⟨_, rfl, .inl ⟨_, rfl, _, rfl, _, _, rfl, rfl, m0, ?_⟩⟩
            refine k _ (a + 1) _ _ (k2.trans Keep.upd) ⟨upd_same, by rw [upd_ne p2.ne]; exact p2.nums, p2.ne, p2.few, by omega, Int.ediv_nonneg ?_ (by omega)⟩ (by omega) (Int.emod_nonneg _ (by omega)) (Int.emod_lt_of_pos _ m0)
            have c2' := of_decide_eq_true c2
            rw [e18] at c2' ⊢
            split <;> omega
          · refine ⟨_, rfl, .inl ⟨_, rfl, _, _, rfl, rfl, (by show (0 : Int) < _; decide), _, rfl, .inl ⟨_, _, rfl, rfl, cmulL (by decide) (by decide), .inl ⟨_, _, rfl, rfl, .inl ⟨_, _, rfl, rfl, _, _, rfl, rfl, cpow5 (by omega) (by omega), .inl ⟨_, rfl, _, _, rfl, rfl, (by show (0 : Int) < _; decide), ?_⟩⟩⟩⟩⟩⟩
            refine ⟨_, rfl, _, rfl, .inl ⟨_, _, rfl, rfl, cmulL (by decide) (by decide), .inl ⟨_, _, rfl, rfl, .inl ⟨_, _, rfl, rfl, cmulL (Int.emod_nonneg _ (by decide)) (by omega), _, rfl, .inl ⟨_, _, rfl, rfl, cmulL (by decide) (by decide), _, rfl, .inl ⟨_, _, rfl, rfl, cmulL (by omega) (by omega), .inl ⟨_, _, rfl, rfl, .inl ⟨_, _, rfl, rfl, _, _, rfl, rfl, cpow3 (by omega) (by omega) (by omega) (by omega) (by omega) (by omega) a0 ha (by decide) (by decide), .inl ⟨_, rfl, _, _, rfl, rfl, (by show (0 : Int) < _; decide), ?_⟩⟩⟩⟩⟩⟩⟩⟩⟩
            refine ⟨_, rfl, _, _, rfl, rfl, ⟨by decide, by decide⟩, .inl ⟨_, rfl, _, rfl, _, _, rfl, rfl, m0, ?_⟩⟩
            exact k _ (a + 1) r _ k2 p2 (Int.le_refl _) (Int.emod_nonneg _ (by omega)) (Int.emod_lt_of_pos _ m0)
        · refine iteF ?_
          refine ⟨_, rfl, .inl ⟨_, rfl, _, _, rfl, rfl, (by show (0 : Int) < _; decide), _, rfl, .inl ⟨_, _, rfl, rfl, cmulL (by decide) (by decide), .inl ⟨_, _, rfl, rfl, .inl ⟨_, _, rfl, rfl, _, _, rfl, rfl, cpow5 (by omega) (by omega), .inl ⟨_, rfl, _, _, rfl, rfl, (by show (0 : Int) < _; decide), ?_⟩⟩⟩⟩⟩⟩
          refine ⟨_, rfl, _, rfl, .inl ⟨_, _, rfl, rfl, cmulL (by decide) (by decide), .inl ⟨_, _, rfl, rfl, .inl ⟨_, _, rfl, rfl, cmulL (Int.emod_nonneg _ (by decide)) (by omega), _, rfl, .inl ⟨_, _, rfl, rfl, cmulL (by decide) (by decide), _, rfl, .inl ⟨_, _, rfl, rfl, cmulL (by omega) (by omega), .inl ⟨_, _, rfl, rfl, .inl ⟨_, _, rfl, rfl, _, _, rfl, rfl, cpow3 (by omega) (by omega) (by omega) (by omega) (by omega) (by omega) a0 ha (by decide) (by decide), .inl ⟨_, rfl, _, _, rfl, rfl, (by show (0 : Int) < _; decide), ?_⟩⟩⟩⟩⟩⟩⟩⟩⟩
          refine ⟨_, rfl, _, _, rfl, rfl, ⟨by decide, by decide⟩, .inl ⟨_, rfl, _, rfl, _, _, rfl, rfl, m0, ?_⟩⟩
          exact k _ (a + 1) r _ k2 p2 (Int.le_refl _) (Int.emod_nonneg _ (by omega)) (Int.emod_lt_of_pos _ m0)
end
end L2.K00
set_option Elab.async false
set_option linter.all false
set_option maxRecDepth 100000
set_option maxHeartbeats 4000000
/-! A drawn thing. -/
namespace L2.K00
open PySem PySem.Spec PyProof.Rows L2.RV
/-- a value of which all is known -/
def Good (K : PySem.W.Frag) (p : Addr) (H : Hp) (v : V) : Prop := ∃ d, Rds K p H v d ∧ d.showable = true ∧ d.depth ≤ 50 ∧ d.shown.length ≤ 1000
theorem Good.keep {K : PySem.W.Frag} {p : Addr} {H H' : Hp} {v : V} (g : Good K p H v) (s : Keep p H H') : Good K p H' v := by
  obtain ⟨d, a, b⟩ := g
  exact ⟨d, a.keep s, b⟩
/-- _law_value(pen) -/
def spValue (K : PySem.W.Frag) : Sp := fun vs H Q _ => ∃ (p l : Addr) (ns : List Int) (a r : Int), vs = [.ref p] ∧ PenAt H p l ns a r ∧ a ≤ 90000 ∧
  ∀ H' a' r' v d, Keep p H H' → PenAt H' p l ns a' r' → a' ≤ a + 2 → Rds K p H' v d → d.showable = true → d.depth ≤ 50 → d.shown.length ≤ 1000 → Q v H'
section
variable {P : Program} {w : World} {K : PySem.W.Frag} {mg : Str → Option Value} {base : Heap} {fd : FuncData}
theorem ok_law_pick (T : Top K mg) (D_law_draw : Def P w K mg base "_law_draw" 1 ["_law_pen_here", "_law_many"] spDraw) (F : Fn K "_law_pick" s_law_pick fd) : FnOk P w K mg base CX0 2 (He.ga K "_law_pick") fd ["_law_pen_here", "_law_some"] spPick := by
  refine F.ok sc_law_pick (fun vs H Q E h => ?_) (fun cdv A outer s H vs Q E hr h => ?_)
  · obtain ⟨p, l, q, ns, a, r, xs, rfl, _⟩ := h
    rfl
  · obtain ⟨p, l, q, ns, a, r, xs, rfl, pa, ha, hq, nq, pos, few, k⟩ := h
    refine ⟨_, PSs.nox (pss_one (ps_ret (pe_ix ix_seq (pv 1) (pe_callD D_law_draw (hr.mono (by decide)) rfl (pa_cons (pv 0) (pa_cons (pe_callB call_len rfl T.n_len (by decide +kernel) (pa_cons (pv 1) pa_nil)) pa_nil))) (fun _ _ => rfl)))), ?_⟩
    refine ⟨_, rfl, _, rfl, _, rfl, _, _, rfl, .inl ⟨_, SqL.of hq, rfl⟩, ?_⟩
    refine ⟨p, l, ns, a, r, _, rfl, pa, ha, by omega, by omega, fun H' a' r' d kp pa' la d0 d1 => ?_⟩
    obtain ⟨j, rfl⟩ : ∃ j : Nat, d = (j : Int) := ⟨_, (Int.toNat_of_nonneg d0).symm⟩
    have lt : j < xs.length := by omega
    refine rd_ix (kp _ _ nq hq) (atI_nat (List.getElem?_eq_getElem lt)) ?_
    exact k H' a' r' _ kp pa' la (List.getElem_mem lt)
theorem ok_law_value (T : Top K mg) (D_law_draw : Def P w K mg base "_law_draw" 1 ["_law_pen_here", "_law_many"] spDraw) (D_law_pick : Def P w K mg base "_law_pick" 2 ["_law_pen_here", "_law_some"] spPick) (F : Fn K "_law_value" s_law_value fd) : FnOk P w K mg base CX0 3 (He.ga K "_law_value") fd ["_law_pen_here"] (spValue K) := by
  refine F.ok sc_law_value (fun vs H Q E h => ?_) (fun cdv A outer s H vs Q E hr h => ?_)
  · obtain ⟨p, l, ns, a, r, rfl, _⟩ := h
    rfl
  · obtain ⟨p, l, ns, a, r, rfl, pa, ha, k⟩ := h
    have hu := hr.units
    refine ⟨_, PSs.nox (pss_cons (ps_set (i := 1) sc_law_value.nd rfl (Or.inl rfl) (pe_lstN (pa_cons pe_non (pa_cons pe_bl (pa_cons pe_int (pa_cons (pe_un un_neg pe_int) (pa_cons (pe_op op_pow pe_int pe_int) (pa_cons pe_str (pa_cons pe_str (pa_cons (pe_tup (pa_cons pe_str (pa_cons pe_int pa_nil))) (pa_cons (pe_lstN (pa_cons (pe_lstN pa_nil) pa_nil)) (pa_cons (pe_disp (pps_cons pe_str pe_int pps_nil) (by rfl) (by rfl) (fun z => by cases z) (by decide)) (pa_cons (pe_op op_times pe_str pe_int) (pa_cons (pe_lstN pa_nil) pa_nil))))))))))))))
      (pss_one (ps_ret (pe_callD D_law_pick (hr.mono (by decide)) rfl (pa_cons (pv 0) (pa_cons (pe_op op_plus (pv 1) (pe_lstN (pa_cons (pe_callD D_law_draw (hr.mono (by decide)) rfl (pa_cons (pv 0) (pa_cons (pe_op op_pow pe_int pe_int) pa_nil))) pa_nil))) pa_nil)))))), ?_⟩
    refine ⟨_, rfl, _, _, rfl, rfl, ⟨by decide, by decide, by decide⟩, by decide, fun a1 n1 => ?_⟩
    have s1 := same_new (o := .tup [.str "a", .int 1]) n1
    have p1 := pa.same s1
    have k1 := Keep.of (p := p) s1
    have e1 := ne_of_none pa.pen n1
    have g1 : Good K p (upd H a1 (.tup [.str "a", .int 1])) (.ref a1) := ⟨_, rds_tup upd_same e1.symm (.cons (rds_str _) (.cons (rds_int _) .nil)), by decide +kernel, by decide +kernel, by decide +kernel⟩
    generalize upd H a1 (.tup [.str "a", .int 1]) = H1 at s1 p1 k1 g1 ⊢
    refine ⟨(by decide : (0 : Nat) ≤ sizeLine), fun a2 n2 m2 => ⟨(by decide : (1 : Nat) ≤ sizeLine), fun a3 n3 m3 => ?_⟩⟩
    have s2 := same_new (o := .lst []) n2
    have p2 := p1.same s2
    have e2 := ne_of_none p1.pen n2
    have k2 := k1.trans (.of s2)
    have f2 : upd H1 a2 (.lst []) a2 = some (.lst []) := upd_same
    have g2 := g1.keep (.of s2)
    generalize upd H1 a2 (.lst []) = H2 at s2 p2 k2 g2 f2 n3 ⊢
    have s3 := same_new (o := .lst [.ref a2]) n3
    have p3 := p2.same s3
    have e3 := ne_of_none p2.pen n3
    have k3 := k2.trans (.of s3)
    have f3 := s3 _ _ f2
    have g3 := g2.keep (.of s3)
    have i3 : Good K p (upd H2 a3 (.lst [.ref a2])) (.ref a3) := ⟨_, rds_lst upd_same m3 e3.symm (.cons (rds_lst f3 m2 e2.symm .nil) .nil), by decide +kernel, by decide +kernel, by decide +kernel⟩
    generalize upd H2 a3 (.lst [.ref a2]) = H3 at s3 p3 k3 g3 i3 ⊢
    intro a4 n4
    refine ⟨upd_same, [(.inr "c", .int 3)], rfl, by decide, ?_⟩
    have s4' : Same H3 (upd (upd H3 a4 (.dK [])) a4 (.dK (mergeK [] [(.inr "c", .int 3)]))) := fun b u z => by
      have nb := ne_of_none z n4
      rw [upd_ne nb, upd_ne nb]
      exact z
    have p4 := p3.same s4'
    have e4 := ne_of_none p3.pen n4
    have k4 := k3.trans (.of s4')
    have g4 := g3.keep (.of s4')
    have i4 := i3.keep (.of s4')
    have j4 : Good K p (upd (upd H3 a4 (.dK [])) a4 (.dK (mergeK [] [(.inr "c", .int 3)]))) (.ref a4) := ⟨_, rds_dct (kvs := [(.inr "c", .int 3)]) upd_same e4.symm (.cons (rds_int _) .nil), by decide +kernel, by decide +kernel, by decide +kernel⟩
    generalize upd (upd H3 a4 (.dK [])) a4 (.dK (mergeK [] [(.inr "c", .int 3)])) = H4 at p4 k4 g4 i4 j4 ⊢
    refine .inr (.inr ⟨_, _, rfl, rfl, ⟨by decide, fun _ _ => by decide +kernel, fun _ _ => by decide +kernel⟩, by decide, fun a5 n5 m5 => ?_⟩)
    have s5 := same_new (o := .lst []) n5
    have p5 := p4.same s5
    have e5 := ne_of_none p4.pen n5
    have k5 := k4.trans (.of s5)
    have g5 := g4.keep (.of s5)
    have i5 := i4.keep (.of s5)
    have j5 := j4.keep (.of s5)
    have l5 : Good K p (upd H4 a5 (.lst [])) (.ref a5) := ⟨_, rds_lst upd_same m5 e5.symm .nil, by decide +kernel, by decide +kernel, by decide +kernel⟩
    generalize upd H4 a5 (.lst []) = H5 at p5 k5 g5 i5 j5 l5 ⊢
    refine ⟨(by decide : (12 : Nat) ≤ sizeLine), fun a6 n6 m6 => ?_⟩
    have good : ∀ v ∈ [V.non, .bl true, .int 0, .int (-5), .int (10 ^ (57 : Int).toNat), .str "", .str "word", .ref a1, .ref a3, .ref a4, .str (Txt.mul "w" 30), .ref a5], Good K p H5 v := by
      intro v m
      simp only [List.mem_cons, List.not_mem_nil, or_false] at m
      rcases m with rfl | rfl | rfl | rfl | rfl | rfl | rfl | rfl | rfl | rfl | rfl | rfl
      · exact ⟨_, rds_non, by decide +kernel, by decide +kernel, by decide +kernel⟩
      · exact ⟨_, rds_bl _, by decide +kernel, by decide +kernel, by decide +kernel⟩
      · exact ⟨_, rds_int _, by decide +kernel, by decide +kernel, by decide +kernel⟩
      · exact ⟨_, rds_int _, by decide +kernel, by decide +kernel, by decide +kernel⟩
      · exact ⟨_, rds_int _, by decide +kernel, by decide +kernel, by decide +kernel⟩
      · exact ⟨_, rds_str _, by decide +kernel, by decide +kernel, by decide +kernel⟩
      · exact ⟨_, rds_str _, by decide +kernel, by decide +kernel, by decide +kernel⟩
      · exact g5
      · exact i5
      · exact j5
      · exact ⟨_, rds_str _, by decide +kernel, by decide +kernel, by decide +kernel⟩
      · exact l5
    have len : [V.non, .bl true, .int 0, .int (-5), .int (10 ^ (57 : Int).toNat), .str "", .str "word", .ref a1, .ref a3, .ref a4, .str (Txt.mul "w" 30), .ref a5].length = 12 := rfl
    generalize [V.non, .bl true, .int 0, .int (-5), .int (10 ^ (57 : Int).toNat), .str "", .str "word", .ref a1, .ref a3, .ref a4, .str (Txt.mul "w" 30), .ref a5] = xs at good len ⊢
    have s6 := same_new (o := .lst xs) n6
    have p6 := p5.same s6
    have e6 := ne_of_none p5.pen n6
    have k6 := k5.trans (.of s6)
    have q6 : ∀ v ∈ xs, Good K p (upd H5 a6 (.lst xs)) v := fun v m => (good v m).keep (.of s6)
    have f6 : upd H5 a6 (.lst xs) a6 = some (.lst xs) := upd_same
    generalize upd H5 a6 (.lst xs) = H6 at p6 k6 q6 f6 ⊢
    refine ⟨_, rfl, _, rfl, _, rfl, _, _, rfl, rfl, ⟨by decide, by decide, by decide⟩, p, l, ns, a, r, _, rfl, p6, by omega, by decide, by decide, fun H7 a' r' d k7 p7 la d0 d1 => ⟨(by decide : (1 : Nat) ≤ sizeLine), fun a7 n7 m7 => ?_⟩⟩
    have c8 : (10 : Int) ^ (8 : Int).toNat = 100000000 := by decide
    rw [c8] at d1
    have f7 := k7 _ _ e6.symm f6
    have q7 : ∀ v ∈ xs, Good K p H7 v := fun v m => (q6 v m).keep k7
    have k7' := k6.trans k7
    have s7 := same_new (o := .lst [.int d]) n7
    have e7 := ne_of_none p7.pen n7
    have p8 := p7.same s7
    have k8 := k7'.trans (.of s7)
    have f8 := s7 _ _ f7
    have q8 : ∀ v ∈ xs, Good K p (upd H7 a7 (.lst [.int d])) v := fun v m => (q7 v m).keep (.of s7)
    have h8 : upd H7 a7 (.lst [.int d]) a7 = some (.lst [.int d]) := upd_same
    generalize upd H7 a7 (.lst [.int d]) = H8 at p8 k8 f8 q8 h8 ⊢
    refine .inr (.inl ⟨_, _, _, _, rfl, rfl, f8, h8, by rw [len]; exact (by decide : (13 : Nat) ≤ sizeLine), fun a9 n9 => ?_⟩)
    have s9 := same_new (o := .lst (xs ++ [.int d])) n9
    have e9 := ne_of_none p8.pen n9
    have k9 := k8.trans (.of s9)
    refine ⟨p, l, a9, ns, a', r', _, rfl, p8.same s9, by omega, upd_same, e9.symm, by simp, by rw [List.length_append, len]; exact (by decide : (13 : Nat) < 1000000), fun H' a2 r2 v kv pv lv mv => ?_⟩
    have good' : Good K p H' v := by
      rcases List.mem_append.mp mv with m | m
      · exact ((q8 v m).keep (.of s9)).keep kv
      · rw [List.mem_singleton] at m
        subst m
        refine ⟨_, rds_int d, ?_, by simp only [PyData.depth]; omega, ?_⟩
        · simp only [PyData.showable, decide_eq_true_eq]
          have : d.natAbs < 2 ^ 27 := by omega
          have z := (Nat.log2_lt (n := d.natAbs) (k := 27))
          by_cases e : d.natAbs = 0
          · rw [e]; decide
          · have := (z e).mpr this
            omega
        · exact Nat.le_trans (PyData.shown_int_le (by omega)) (by decide)
    obtain ⟨dd, r1, r2', r3, r4⟩ := good'
    exact k _ _ _ _ dd (k9.trans kv) pv (by omega) r1 r2' r3 r4
end
end L2.K00
set_option Elab.async false
set_option linter.all false
set_option maxRecDepth 100000
set_option maxHeartbeats 4000000
/-! The signs of an error. -/
namespace L2.K00
open PySem PySem.Spec PyProof.Rows L2.RV
/-- tuples of a text and a Bool -/
inductive Sg (H : Hp) : List V → List (Str × Bool) → Prop
  | nil : Sg H [] []
  | cons {a : Addr} {x : Str} {b : Bool} {vs : List V} {ps : List (Str × Bool)} : H a = some (.tup [.str x, .bl b]) → Sg H vs ps → Sg H (.ref a :: vs) ((x, b) :: ps)
theorem Sg.same {H H' : Hp} (s : Same H H') : ∀ {vs : List V} {ps : List (Str × Bool)}, Sg H vs ps → Sg H' vs ps
  | _, _, .nil => .nil
  | _, _, .cons h r => .cons (s _ _ h) (Sg.same s r)
theorem Sg.append {H : Hp} : ∀ {vs ws : List V} {ps qs : List (Str × Bool)}, Sg H vs ps → Sg H ws qs → Sg H (vs ++ ws) (ps ++ qs)
  | _, _, _, _, .nil, z => z
  | _, _, _, _, .cons h r, z => .cons h (Sg.append r z)
theorem Sg.length {H : Hp} : ∀ {vs : List V} {ps : List (Str × Bool)}, Sg H vs ps → vs.length = ps.length
  | _, _, .nil => rfl
  | _, _, .cons h r => congrArg Nat.succ (Sg.length r)
def SgL (H : Hp) (q : Addr) (ps : List (Str × Bool)) : Prop := ∃ vs, H q = some (.lst vs) ∧ Sg H vs ps
def sg1 : List (Str × Nat) := [("input", 1), ("refused", 2), ("answer", 3), ("amount", 19), ("book", 17), ("count", 21), ("kind", 9), ("layout", 10), ("line", 24), ("name", 22), ("order", 15), ("part", 6), ("place", 18), ("plan", 12), ("question", 7), ("rule", 11)]
def sg2 : List (Str × Nat) := [("shape", 4), ("span", 8), ("table", 5), ("text", 23), ("unit", 20), ("vault", 16), ("gone", 27), ("taken", 29), ("too many", 25), ("torn", 28), ("untold", 26), ("no deed", 32), ("poly", 13), ("sites", 14), ("no name", 31), ("no unit", 30)]
/-- the signs and whether the i-th class is below theirs -/
def sgs (i : Nat) : List (Str × Bool) := (sg1 ++ sg2).map fun p => (p.1, isa i p.2)
/-- _law_signs(error) -/
def spSigns (K : PySem.W.Frag) : Sp := fun vs H Q _ => ∃ (e : Addr) (i : Nat) (l : List (Str × V)), vs = [.ref e] ∧ i < 33 ∧ ErrF H e (ca K i) l ∧ ∀ H' q, Same H H' → SgL H' q (sgs i) → Q (.ref q) H'
def tSig (K : PySem.W.Frag) (x : Str) (j : Nat) : TE := tTup (tCons (tC (.str x)) (tCons (tCB (L2.RV.rIsE K) (tCons (tVar 0) (tCons (tC (.ref (ca K j))) tNil))) tNil))
def tTwo (K : PySem.W.Frag) (x : Str) (j : Nat) (y : Str) (k : Nat) : TE := tLstN (tCons (tSig K x j) (tCons (tSig K y k) tNil))
section
variable {P : Program} {w : World} {K : PySem.W.Frag} {mg : Str → Option Value} {base : Heap} {fd : FuncData}
theorem sig_ok {σ : L2.St} {H : Hp} {Q : VK} {e : Addr} {i j : Nat} {l : List (Str × V)} {x : Str} (T : Top K mg) (v : σ[0]? = some (some (.ref e))) (hi : i < 33) (hj : j < 33) (ee : ErrF H e (ca K i) l)
    (h : ∀ a H', Same H H' → H' a = some (.tup [.str x, .bl (isa i j)]) → Q (.ref a) H') : tSig K x j σ H Q :=
  ⟨_, v, e, ca K i, l, .ref (ca K j), .ref (ca K j), isa i j, rfl, ee, (T.ex i hi).1, fun u r => r, T.kin i j hi hj, (by decide : (2 : Nat) ≤ sizeLine), fun p n => h p _ (same_new n) upd_same⟩
theorem two_ok {σ : L2.St} {H : Hp} {Q : VK} {e : Addr} {i j j' : Nat} {l : List (Str × V)} {x y : Str} (T : Top K mg) (v : σ[0]? = some (some (.ref e))) (hi : i < 33) (hj : j < 33) (hj' : j' < 33) (ee : ErrF H e (ca K i) l)
    (h : ∀ q H' vs, Same H H' → H' q = some (.lst vs) → Sg H' vs [(x, isa i j), (y, isa i j')] → Q (.ref q) H') : tTwo K x j y j' σ H Q := by
  show tSig K x j σ H (fun v H1 => tSig K y j' σ H1 fun v' H2 => ([v, v'] : List V).length ≤ sizeLine ∧ ∀ p, H2 p = none → p ≠ sysModules → Q (.ref p) (upd H2 p (.lst [v, v'])))
  refine sig_ok T v hi hj ee fun a H1 s1 h1 => ?_
  refine sig_ok T v hi hj' (ee.same s1) fun b H2 s2 h2 => ?_
  refine ⟨(by decide : (2 : Nat) ≤ sizeLine), fun q n _ => ?_⟩
  have s3 := same_new (o := .lst [.ref a, .ref b]) n
  exact h q _ _ ((s1.trans s2).trans s3) upd_same (.cons (s3 _ _ (s2 _ _ h1)) (.cons (s3 _ _ h2) .nil))
theorem first_ok {D : Ends} {rest : TS} {H : Hp} {e : Addr} {i j j' : Nat} {l : List (Str × V)} {x y : Str} (T : Top K mg) (hi : i < 33) (hj : j < 33) (hj' : j' < 33) (ee : ErrF H e (ca K i) l)
    (h : ∀ q H', Same H H' → SgL H' q [(x, isa i j), (y, isa i j')] → rest D [some (.ref e), some (.ref q)] H') : tSeq (tAsg (tTwo K x j y j') (gName 1)) rest D [some (.ref e), none] H := by
  show tTwo K x j y j' [some (.ref e), none] H (fun v H1 => rest D [some (.ref e), some v] H1)
  exact two_ok T rfl hi hj hj' ee fun q H' vs s a b => h q H' s ⟨vs, a, b⟩
theorem plus_ok {Q : VK} {H : Hp} {e q : Addr} {i j j' : Nat} {l : List (Str × V)} {x y : Str} {ps : List (Str × Bool)} (T : Top K mg) (hi : i < 33) (hj : j < 33) (hj' : j' < 33) (ee : ErrF H e (ca K i) l) (S : SgL H q ps) (few : ps.length ≤ 100)
    (h : ∀ q H', Same H H' → SgL H' q (ps ++ [(x, isa i j), (y, isa i j')]) → Q (.ref q) H') : tOp rPlus (tVar 1) (tTwo K x j y j') [some (.ref e), some (.ref q)] H Q := by
  obtain ⟨vs, hq, sg⟩ := S
  refine ⟨_, rfl, two_ok T rfl hi hj hj' ee fun q' H1 ws s1 h1 g1 => ?_⟩
  refine .inr (.inl ⟨_, _, _, _, rfl, rfl, s1 _ _ hq, h1, ?_, fun p n => ?_⟩)
  · rw [sg.length, g1.length]
    exact Nat.le_trans (Nat.add_le_add_right few 2) (by decide)
  · have s2 := same_new (o := .lst (vs ++ ws)) n
    exact h p _ (s1.trans s2) ⟨_, upd_same, ((sg.same s1).append g1).same s2⟩
theorem more_ok {D : Ends} {rest : TS} {H : Hp} {e q : Addr} {i j j' : Nat} {l : List (Str × V)} {x y : Str} {ps : List (Str × Bool)} (T : Top K mg) (hi : i < 33) (hj : j < 33) (hj' : j' < 33) (ee : ErrF H e (ca K i) l) (S : SgL H q ps) (few : ps.length ≤ 100)
    (h : ∀ q H', Same H H' → SgL H' q (ps ++ [(x, isa i j), (y, isa i j')]) → rest D [some (.ref e), some (.ref q)] H') : tSeq (tAsg (tOp rPlus (tVar 1) (tTwo K x j y j')) (gName 1)) rest D [some (.ref e), some (.ref q)] H := by
  show tOp rPlus (tVar 1) (tTwo K x j y j') [some (.ref e), some (.ref q)] H (fun v H1 => rest D [some (.ref e), some v] H1)
  exact plus_ok T hi hj hj' ee S few fun q' H' s a => h q' H' s a
theorem ok_law_signs (T : Top K mg) (F : Fn K "_law_signs" s_law_signs fd) : FnOk P w K mg base CX0 1 (He.ga K "_law_signs") fd ["_law_error"] (spSigns K) := by
  refine F.ok sc_law_signs (fun vs H Q E h => ?_) (fun cdv A outer s H vs Q E hr h => ?_)
  · obtain ⟨e, i, l, rfl, _⟩ := h
    rfl
  · obtain ⟨e, i, l, rfl, hi, ee, k⟩ := h
    refine ⟨_, PSs.nox (pss_cons (ps_set (i := 1) sc_law_signs.nd rfl (Or.inl rfl) (pe_lstN (pa_cons (pe_tup (pa_cons pe_str (pa_cons (pe_callB L2.RV.call_isE rfl T.n_isinstance (by decide +kernel) (pa_cons (pv 0) (pa_cons (pe_glob (v := .ref (ca K 1)) rfl T.c_BadInput rfl) pa_nil))) pa_nil))) (pa_cons (pe_tup (pa_cons pe_str (pa_cons (pe_callB L2.RV.call_isE rfl T.n_isinstance (by decide +kernel) (pa_cons (pv 0) (pa_cons (pe_glob (v := .ref (ca K 2)) rfl T.c_Refused rfl) pa_nil))) pa_nil))) pa_nil))))
      (pss_cons (ps_set (i := 1) sc_law_signs.nd rfl (Or.inl rfl) (pe_op op_plus (pv 1) (pe_lstN (pa_cons (pe_tup (pa_cons pe_str (pa_cons (pe_callB L2.RV.call_isE rfl T.n_isinstance (by decide +kernel) (pa_cons (pv 0) (pa_cons (pe_glob (v := .ref (ca K 3)) rfl T.c_NoAnswer rfl) pa_nil))) pa_nil))) (pa_cons (pe_tup (pa_cons pe_str (pa_cons (pe_callB L2.RV.call_isE rfl T.n_isinstance (by decide +kernel) (pa_cons (pv 0) (pa_cons (pe_glob (v := .ref (ca K 19)) rfl T.c_BadAmount rfl) pa_nil))) pa_nil))) pa_nil)))))
      (pss_cons (ps_set (i := 1) sc_law_signs.nd rfl (Or.inl rfl) (pe_op op_plus (pv 1) (pe_lstN (pa_cons (pe_tup (pa_cons pe_str (pa_cons (pe_callB L2.RV.call_isE rfl T.n_isinstance (by decide +kernel) (pa_cons (pv 0) (pa_cons (pe_glob (v := .ref (ca K 17)) rfl T.c_BadBook rfl) pa_nil))) pa_nil))) (pa_cons (pe_tup (pa_cons pe_str (pa_cons (pe_callB L2.RV.call_isE rfl T.n_isinstance (by decide +kernel) (pa_cons (pv 0) (pa_cons (pe_glob (v := .ref (ca K 21)) rfl T.c_BadCount rfl) pa_nil))) pa_nil))) pa_nil)))))
      (pss_cons (ps_set (i := 1) sc_law_signs.nd rfl (Or.inl rfl) (pe_op op_plus (pv 1) (pe_lstN (pa_cons (pe_tup (pa_cons pe_str (pa_cons (pe_callB L2.RV.call_isE rfl T.n_isinstance (by decide +kernel) (pa_cons (pv 0) (pa_cons (pe_glob (v := .ref (ca K 9)) rfl T.c_BadKind rfl) pa_nil))) pa_nil))) (pa_cons (pe_tup (pa_cons pe_str (pa_cons (pe_callB L2.RV.call_isE rfl T.n_isinstance (by decide +kernel) (pa_cons (pv 0) (pa_cons (pe_glob (v := .ref (ca K 10)) rfl T.c_BadLayout rfl) pa_nil))) pa_nil))) pa_nil)))))
      (pss_cons (ps_set (i := 1) sc_law_signs.nd rfl (Or.inl rfl) (pe_op op_plus (pv 1) (pe_lstN (pa_cons (pe_tup (pa_cons pe_str (pa_cons (pe_callB L2.RV.call_isE rfl T.n_isinstance (by decide +kernel) (pa_cons (pv 0) (pa_cons (pe_glob (v := .ref (ca K 24)) rfl T.c_BadLine rfl) pa_nil))) pa_nil))) (pa_cons (pe_tup (pa_cons pe_str (pa_cons (pe_callB L2.RV.call_isE rfl T.n_isinstance (by decide +kernel) (pa_cons (pv 0) (pa_cons (pe_glob (v := .ref (ca K 22)) rfl T.c_BadName rfl) pa_nil))) pa_nil))) pa_nil)))))
      (pss_cons (ps_set (i := 1) sc_law_signs.nd rfl (Or.inl rfl) (pe_op op_plus (pv 1) (pe_lstN (pa_cons (pe_tup (pa_cons pe_str (pa_cons (pe_callB L2.RV.call_isE rfl T.n_isinstance (by decide +kernel) (pa_cons (pv 0) (pa_cons (pe_glob (v := .ref (ca K 15)) rfl T.c_BadOrder rfl) pa_nil))) pa_nil))) (pa_cons (pe_tup (pa_cons pe_str (pa_cons (pe_callB L2.RV.call_isE rfl T.n_isinstance (by decide +kernel) (pa_cons (pv 0) (pa_cons (pe_glob (v := .ref (ca K 6)) rfl T.c_BadPart rfl) pa_nil))) pa_nil))) pa_nil)))))
      (pss_cons (ps_set (i := 1) sc_law_signs.nd rfl (Or.inl rfl) (pe_op op_plus (pv 1) (pe_lstN (pa_cons (pe_tup (pa_cons pe_str (pa_cons (pe_callB L2.RV.call_isE rfl T.n_isinstance (by decide +kernel) (pa_cons (pv 0) (pa_cons (pe_glob (v := .ref (ca K 18)) rfl T.c_BadPlace rfl) pa_nil))) pa_nil))) (pa_cons (pe_tup (pa_cons pe_str (pa_cons (pe_callB L2.RV.call_isE rfl T.n_isinstance (by decide +kernel) (pa_cons (pv 0) (pa_cons (pe_glob (v := .ref (ca K 12)) rfl T.c_BadPlan rfl) pa_nil))) pa_nil))) pa_nil)))))
      (pss_cons (ps_set (i := 1) sc_law_signs.nd rfl (Or.inl rfl) (pe_op op_plus (pv 1) (pe_lstN (pa_cons (pe_tup (pa_cons pe_str (pa_cons (pe_callB L2.RV.call_isE rfl T.n_isinstance (by decide +kernel) (pa_cons (pv 0) (pa_cons (pe_glob (v := .ref (ca K 7)) rfl T.c_BadQuestion rfl) pa_nil))) pa_nil))) (pa_cons (pe_tup (pa_cons pe_str (pa_cons (pe_callB L2.RV.call_isE rfl T.n_isinstance (by decide +kernel) (pa_cons (pv 0) (pa_cons (pe_glob (v := .ref (ca K 11)) rfl T.c_BadRule rfl) pa_nil))) pa_nil))) pa_nil)))))
      (pss_cons (ps_set (i := 1) sc_law_signs.nd rfl (Or.inl rfl) (pe_op op_plus (pv 1) (pe_lstN (pa_cons (pe_tup (pa_cons pe_str (pa_cons (pe_callB L2.RV.call_isE rfl T.n_isinstance (by decide +kernel) (pa_cons (pv 0) (pa_cons (pe_glob (v := .ref (ca K 4)) rfl T.c_BadShape rfl) pa_nil))) pa_nil))) (pa_cons (pe_tup (pa_cons pe_str (pa_cons (pe_callB L2.RV.call_isE rfl T.n_isinstance (by decide +kernel) (pa_cons (pv 0) (pa_cons (pe_glob (v := .ref (ca K 8)) rfl T.c_BadSpan rfl) pa_nil))) pa_nil))) pa_nil)))))
      (pss_cons (ps_set (i := 1) sc_law_signs.nd rfl (Or.inl rfl) (pe_op op_plus (pv 1) (pe_lstN (pa_cons (pe_tup (pa_cons pe_str (pa_cons (pe_callB L2.RV.call_isE rfl T.n_isinstance (by decide +kernel) (pa_cons (pv 0) (pa_cons (pe_glob (v := .ref (ca K 5)) rfl T.c_BadTable rfl) pa_nil))) pa_nil))) (pa_cons (pe_tup (pa_cons pe_str (pa_cons (pe_callB L2.RV.call_isE rfl T.n_isinstance (by decide +kernel) (pa_cons (pv 0) (pa_cons (pe_glob (v := .ref (ca K 23)) rfl T.c_BadText rfl) pa_nil))) pa_nil))) pa_nil)))))
      (pss_cons (ps_set (i := 1) sc_law_signs.nd rfl (Or.inl rfl) (pe_op op_plus (pv 1) (pe_lstN (pa_cons (pe_tup (pa_cons pe_str (pa_cons (pe_callB L2.RV.call_isE rfl T.n_isinstance (by decide +kernel) (pa_cons (pv 0) (pa_cons (pe_glob (v := .ref (ca K 20)) rfl T.c_BadUnit rfl) pa_nil))) pa_nil))) (pa_cons (pe_tup (pa_cons pe_str (pa_cons (pe_callB L2.RV.call_isE rfl T.n_isinstance (by decide +kernel) (pa_cons (pv 0) (pa_cons (pe_glob (v := .ref (ca K 16)) rfl T.c_BadVault rfl) pa_nil))) pa_nil))) pa_nil)))))
      (pss_cons (ps_set (i := 1) sc_law_signs.nd rfl (Or.inl rfl) (pe_op op_plus (pv 1) (pe_lstN (pa_cons (pe_tup (pa_cons pe_str (pa_cons (pe_callB L2.RV.call_isE rfl T.n_isinstance (by decide +kernel) (pa_cons (pv 0) (pa_cons (pe_glob (v := .ref (ca K 27)) rfl T.c_Gone rfl) pa_nil))) pa_nil))) (pa_cons (pe_tup (pa_cons pe_str (pa_cons (pe_callB L2.RV.call_isE rfl T.n_isinstance (by decide +kernel) (pa_cons (pv 0) (pa_cons (pe_glob (v := .ref (ca K 29)) rfl T.c_Taken rfl) pa_nil))) pa_nil))) pa_nil)))))
      (pss_cons (ps_set (i := 1) sc_law_signs.nd rfl (Or.inl rfl) (pe_op op_plus (pv 1) (pe_lstN (pa_cons (pe_tup (pa_cons pe_str (pa_cons (pe_callB L2.RV.call_isE rfl T.n_isinstance (by decide +kernel) (pa_cons (pv 0) (pa_cons (pe_glob (v := .ref (ca K 25)) rfl T.c_TooMany rfl) pa_nil))) pa_nil))) (pa_cons (pe_tup (pa_cons pe_str (pa_cons (pe_callB L2.RV.call_isE rfl T.n_isinstance (by decide +kernel) (pa_cons (pv 0) (pa_cons (pe_glob (v := .ref (ca K 28)) rfl T.c_Torn rfl) pa_nil))) pa_nil))) pa_nil)))))
      (pss_cons (ps_set (i := 1) sc_law_signs.nd rfl (Or.inl rfl) (pe_op op_plus (pv 1) (pe_lstN (pa_cons (pe_tup (pa_cons pe_str (pa_cons (pe_callB L2.RV.call_isE rfl T.n_isinstance (by decide +kernel) (pa_cons (pv 0) (pa_cons (pe_glob (v := .ref (ca K 26)) rfl T.c_Untold rfl) pa_nil))) pa_nil))) (pa_cons (pe_tup (pa_cons pe_str (pa_cons (pe_callB L2.RV.call_isE rfl T.n_isinstance (by decide +kernel) (pa_cons (pv 0) (pa_cons (pe_glob (v := .ref (ca K 32)) rfl T.c_NoDeed rfl) pa_nil))) pa_nil))) pa_nil)))))
      (pss_cons (ps_set (i := 1) sc_law_signs.nd rfl (Or.inl rfl) (pe_op op_plus (pv 1) (pe_lstN (pa_cons (pe_tup (pa_cons pe_str (pa_cons (pe_callB L2.RV.call_isE rfl T.n_isinstance (by decide +kernel) (pa_cons (pv 0) (pa_cons (pe_glob (v := .ref (ca K 13)) rfl T.c_BadPoly rfl) pa_nil))) pa_nil))) (pa_cons (pe_tup (pa_cons pe_str (pa_cons (pe_callB L2.RV.call_isE rfl T.n_isinstance (by decide +kernel) (pa_cons (pv 0) (pa_cons (pe_glob (v := .ref (ca K 14)) rfl T.c_BadSites rfl) pa_nil))) pa_nil))) pa_nil)))))
      (pss_one (ps_ret (pe_op op_plus (pv 1) (pe_lstN (pa_cons (pe_tup (pa_cons pe_str (pa_cons (pe_callB L2.RV.call_isE rfl T.n_isinstance (by decide +kernel) (pa_cons (pv 0) (pa_cons (pe_glob (v := .ref (ca K 31)) rfl T.c_NoName rfl) pa_nil))) pa_nil))) (pa_cons (pe_tup (pa_cons pe_str (pa_cons (pe_callB L2.RV.call_isE rfl T.n_isinstance (by decide +kernel) (pa_cons (pv 0) (pa_cons (pe_glob (v := .ref (ca K 30)) rfl T.c_NoUnit rfl) pa_nil))) pa_nil))) pa_nil))))))))))))))))))))), ?_⟩
    refine first_ok T hi (by decide) (by decide) ee fun q0 H0 s0 S0 => ?_
    have t0 := s0
    have e0 := ee.same s0
    refine more_ok T hi (by decide) (by decide) e0 S0 (Nat.le_of_ble_eq_true rfl) fun q1 H1 s1 S1 => ?_
    have t1 := t0.trans s1
    have e1 := e0.same s1
    refine more_ok T hi (by decide) (by decide) e1 S1 (Nat.le_of_ble_eq_true rfl) fun q2 H2 s2 S2 => ?_
    have t2 := t1.trans s2
    have e2 := e1.same s2
    refine more_ok T hi (by decide) (by decide) e2 S2 (Nat.le_of_ble_eq_true rfl) fun q3 H3 s3 S3 => ?_
    have t3 := t2.trans s3
    have e3 := e2.same s3
    refine more_ok T hi (by decide) (by decide) e3 S3 (Nat.le_of_ble_eq_true rfl) fun q4 H4 s4 S4 => ?_
    have t4 := t3.trans s4
    have e4 := e3.same s4
    refine more_ok T hi (by decide) (by decide) e4 S4 (Nat.le_of_ble_eq_true rfl) fun q5 H5 s5 S5 => ?_
    have t5 := t4.trans s5
    have e5 := e4.same s5
    refine more_ok T hi (by decide) (by decide) e5 S5 (Nat.le_of_ble_eq_true rfl) fun q6 H6 s6 S6 => ?_
    have t6 := t5.trans s6
    have e6 := e5.same s6
    refine more_ok T hi (by decide) (by decide) e6 S6 (Nat.le_of_ble_eq_true rfl) fun q7 H7 s7 S7 => ?_
    have t7 := t6.trans s7
    have e7 := e6.same s7
    refine more_ok T hi (by decide) (by decide) e7 S7 (Nat.le_of_ble_eq_true rfl) fun q8 H8 s8 S8 => ?_
    have t8 := t7.trans s8
    have e8 := e7.same s8
    refine more_ok T hi (by decide) (by decide) e8 S8 (Nat.le_of_ble_eq_true rfl) fun q9 H9 s9 S9 => ?_
    have t9 := t8.trans s9
    have e9 := e8.same s9
    refine more_ok T hi (by decide) (by decide) e9 S9 (Nat.le_of_ble_eq_true rfl) fun q10 H10 s10 S10 => ?_
    have t10 := t9.trans s10
    have e10 := e9.same s10
    refine more_ok T hi (by decide) (by decide) e10 S10 (Nat.le_of_ble_eq_true rfl) fun q11 H11 s11 S11 => ?_
    have t11 := t10.trans s11
    have e11 := e10.same s11
    refine more_ok T hi (by decide) (by decide) e11 S11 (Nat.le_of_ble_eq_true rfl) fun q12 H12 s12 S12 => ?_
    have t12 := t11.trans s12
    have e12 := e11.same s12
    refine more_ok T hi (by decide) (by decide) e12 S12 (Nat.le_of_ble_eq_true rfl) fun q13 H13 s13 S13 => ?_
    have t13 := t12.trans s13
    have e13 := e12.same s13
    refine more_ok T hi (by decide) (by decide) e13 S13 (Nat.le_of_ble_eq_true rfl) fun q14 H14 s14 S14 => ?_
    have t14 := t13.trans s14
    have e14 := e13.same s14
    refine plus_ok T hi (by decide) (by decide) e14 S14 (Nat.le_of_ble_eq_true rfl) fun q15 H15 s15 S15 => ?_
    exact k _ _ (t14.trans s15) S15
end
end L2.K00
set_option Elab.async false
set_option linter.all false
set_option maxRecDepth 100000
set_option maxHeartbeats 4000000
/-! The kinds of an error. -/
namespace L2.K00
open PySem PySem.Spec PyProof.Rows L2.RV
def tTruth (K : PySem.W.Frag) (ta : TE) : TT := fun σ H Q => ta σ H fun x H' => ∃ k, TruV K x H' k ∧ Q k H'
theorem same_updN {H H' : Hp} {D : Addr} {o : HO} (s : Same H H') (n : H D = none) : Same H (upd H' D o) := fun b u z => by
  rw [upd_ne (ne_of_none z n)]
  exact s _ _ z
theorem Sg.get {H : Hp} : ∀ {vs : List V} {ps : List (Str × Bool)} {n : Nat} {x : V}, Sg H vs ps → vs[n]? = some x → ∃ a y b, x = .ref a ∧ ps[n]? = some (y, b) ∧ H a = some (.tup [.str y, .bl b])
  | _, _, 0, _, .cons h r, e => by
    cases e
    exact ⟨_, _, _, rfl, rfl, h⟩
  | _, _, n + 1, _, .cons h r, e => Sg.get (n := n) r e
def kin (ps : List (Str × Bool)) : List Str := (ps.filter (·.2)).map (·.1)
theorem kin_take {ps : List (Str × Bool)} {n : Nat} {y : Str} {b : Bool} (h : ps[n]? = some (y, b)) : kin (ps.take (n + 1)) = kin (ps.take n) ++ if b = true then [y] else [] := by
  have lt : n < ps.length := by
    rcases Nat.lt_or_ge n ps.length with z | z
    · exact z
    · rw [List.getElem?_eq_none z] at h
      cases h
  rw [List.getElem?_eq_getElem lt] at h
  have hp : ps[n] = (y, b) := Option.some.inj h
  unfold kin
  rw [← List.take_append_getElem lt, List.filter_append, List.map_append]
  congr 1
  rw [hp]
  cases b <;> rfl
/-- the signs of the i-th class -/
def kinds (i : Nat) : List Str := kin (sgs i)
/-- _law_kinds(error) -/
def spKinds (K : PySem.W.Frag) : Sp := fun vs H Q _ => ∃ (e : Addr) (i : Nat) (l : List (Str × V)), vs = [.ref e] ∧ i < 33 ∧ ErrF H e (ca K i) l ∧ ∀ H' q, Same H H' → H' q = some (.lst ((kinds i).map V.str)) → Q (.ref q) H'
section
variable {P : Program} {w : World} {K : PySem.W.Frag} {mg : Str → Option Value} {base : Heap} {fd : FuncData}
theorem isa0 : ∀ i, i < 33 → isa i 0 = true := by decide +kernel
theorem ok_law_kinds (T : Top K mg) (D_law_signs : Def P w K mg base "_law_signs" 1 ["_law_error"] (spSigns K)) (F : Fn K "_law_kinds" s_law_kinds fd) : FnOk P w K mg base CX0 2 (He.ga K "_law_kinds") fd ["_law_error"] (spKinds K) := by
  refine F.ok sc_law_kinds (fun vs H Q E h => ?_) (fun cdv A outer s H vs Q E hr h => ?_)
  · obtain ⟨e, i, l, rfl, _⟩ := h
    rfl
  · obtain ⟨e, i, l, rfl, hi, ee, k⟩ := h
    refine ⟨_, PSs.nox (pss_one (ps_ret (pe_ifExp (pt_val (pe_callB L2.RV.call_isE rfl T.n_isinstance (by decide +kernel) (pa_cons (pv 0) (pa_cons (pe_glob (v := .ref (ca K 0)) rfl T.c_VaultError rfl) pa_nil)))) (pe_lc (own := [("_law_sign", 1), ("_law_is_so", 2)]) (g := gTup K 2 (gCons (gName 1) (gCons (gName 2) gNil))) (te := tVar 1) (tt := tTruth K (tVar 2)) (by rfl) sc_law_kinds.nd (pi_list (pe_callD D_law_signs (hr.mono (by decide)) rfl (pa_cons (pv 0) pa_nil))) (blkOk_by (own := [("_law_sign", 1), ("_law_is_so", 2)]) (N := ["_law_error", "_law_sign", "_law_is_so"]) (sc := defScope s_law_kinds) (by decide +kernel)) (fun _ _ _ _ _ => by exact (pg_tup rfl (pgs_cons (pg_name (i := 1) sc_law_kinds.nd rfl (Or.inl rfl)) (pgs_cons (pg_name (i := 2) sc_law_kinds.nd rfl (Or.inl rfl)) pgs_nil)))) (fun _ _ _ _ _ => by exact (pts_one (pt_truth (pv 2) (by intro _; rfl)))) (fun _ _ _ _ _ => by exact (pv 1))) pe_non))), ?_⟩
    refine ⟨_, rfl, e, ca K i, l, .ref (ca K 0), .ref (ca K 0), isa i 0, rfl, ee, (T.ex i hi).1, fun u r => r, T.kin i 0 hi (by decide), _, rfl, ?_⟩
    rw [isa0 i hi]
    refine ⟨_, rfl, e, i, l, rfl, hi, ee, fun H1 q s1 S => ?_⟩
    obtain ⟨vs, hq, sg⟩ := S
    refine ⟨q, rfl, ⟨vs, SqL.of hq⟩, fun D nD => ?_⟩
    refine lc_list (xs := vs) (fun n H2 => Same H1 H2 ∧ H2 D = some (.lst ((kin ((sgs i).take n)).map V.str))) ⟨same_new nD, upd_same⟩ (fun n H2 _ p => SqL.of (p.1 _ _ hq)) (fun n x H2 hx p => ?_) (fun H2 p => ?_)
    · obtain ⟨a, y, b, rfl, hp, ha⟩ := sg.get hx
      refine ⟨a, _, rfl, SqT.of (p.1 _ _ ha), rfl, _, _, rfl, _, _, rfl, rfl, rfl, _, rfl, _, rfl, ?_⟩
      have few : n < 33 := by
        rcases Nat.lt_or_ge n (sgs i).length with z | z
        · exact Nat.lt_of_lt_of_le z (by rw [show (sgs i).length = 32 from rfl]; decide)
        · rw [List.getElem?_eq_none z] at hp
          cases hp
      cases b with
      | true =>
        refine ⟨_, rfl, _, p.2, ?_, same_updN p.1 nD, ?_⟩
        · rw [List.length_map]
          have l1 : (kin ((sgs i).take n)).length ≤ n := by
            unfold kin
            rw [List.length_map]
            exact Nat.le_trans (List.length_filter_le ..) (by rw [List.length_take]; omega)
          rw [sizeLine_eq]
          omega
        · rw [upd_same, kin_take hp, List.map_append]
          rfl
      | false =>
        refine ⟨p.1, ?_⟩
        rw [kin_take hp]
        simpa using p.2
    · refine k _ _ (s1.trans p.1) ?_
      rw [p.2]
      have e1 : vs.length = (sgs i).length := sg.length
      rw [e1, List.take_length]
      rfl
end
end L2.K00
set_option Elab.async false
set_option linter.all false
set_option maxRecDepth 100000
set_option maxHeartbeats 4000000
/-! Errors made of a thing, with their signs. -/
namespace L2.K00
open PySem PySem.Spec PyProof.Rows L2.RV
/-- H without what stands at q -/
def wo (q : Addr) (H : Hp) : Hp := fun b => if b = q then none else H b
theorem wo_ne {q b : Addr} {H : Hp} (n : b ≠ q) : wo q H b = H b := if_neg n
theorem wo_same {q : Addr} {H : Hp} : Same (wo q H) H := fun b o h => by
  unfold wo at h
  split at h
  · cases h
  · exact h
theorem Same.wo {q : Addr} {H H' : Hp} (s : Same H H') : Same (wo q H) (wo q H') := fun b o h => by
  unfold L2.K00.wo at h ⊢
  split at h
  · cases h
  · rename_i n
    rw [if_neg n]
    exact s _ _ h
theorem wo_upd {q : Addr} {H : Hp} {o : HO} : wo q (upd H q o) = wo q H := by
  funext b
  unfold wo
  split
  · rfl
  · rename_i n
    exact upd_ne n
theorem errF_wo {q : Addr} {H : Hp} {e C : Addr} {l : List (Str × V)} {xs : List V} (x : ErrF H e C l) (h : H q = some (.lst xs)) : ErrF (wo q H) e C l := by
  obtain ⟨fs, at_, known⟩ := x
  refine ⟨fs, ?_, known⟩
  rcases at_ with ⟨h0, h1⟩ | ⟨d, h1, h2⟩
  · refine .inl ⟨h0, ?_⟩
    rw [wo_ne (fun z => ?_)]
    · exact h1
    · rw [z, h] at h1
      cases h1
  · refine .inr ⟨d, ?_, ?_⟩
    · rw [wo_ne (fun z => ?_)]
      · exact h1
      · rw [z, h] at h1
        cases h1
    · rw [wo_ne (fun z => ?_)]
      · exact h2
      · rw [z, h] at h2
        cases h2
/-- a triple of an error, its signs and its field's value -/
def Tri (K : PySem.W.Frag) (t : V) (H : Hp) (v : V) : Prop := ∃ (a e l2 : Addr) (i : Nat) (l : List (Str × V)), v = .ref a ∧ H a = some (.tup [.ref e, .ref l2, t]) ∧ H l2 = some (.lst ((kinds i).map V.str)) ∧ i < 33 ∧ ErrF H e (ca K i) l
theorem Tri.same {K : PySem.W.Frag} {t v : V} {H H' : Hp} (x : Tri K t H v) (s : Same H H') : Tri K t H' v := by
  obtain ⟨a, e, l2, i, l, h0, h1, h2, h3, h4⟩ := x
  exact ⟨a, e, l2, i, l, h0, s _ _ h1, s _ _ h2, h3, h4.same s⟩
/-- n triples stand in the list at q, new since H0 -/
def Acc (K : PySem.W.Frag) (t : V) (H0 : Hp) (q : Addr) (n : Nat) (H : Hp) : Prop := Same H0 H ∧ H0 q = none ∧ ∃ vs, H q = some (.lst vs) ∧ vs.length = n ∧ ∀ v ∈ vs, Tri K t (wo q H) v
theorem Acc.same {K : PySem.W.Frag} {t : V} {H0 H H' : Hp} {q : Addr} {n : Nat} (x : Acc K t H0 q n H) (s : Same H H') : Acc K t H0 q n H' := by
  obtain ⟨h0, h1, vs, h2, h3, h4⟩ := x
  exact ⟨h0.trans s, h1, vs, s _ _ h2, h3, fun v m => (h4 v m).same (Same.wo s)⟩
theorem Acc.more {K : PySem.W.Frag} {t v : V} {H0 H : Hp} {q : Addr} {n : Nat} {vs : List V} (x : Acc K t H0 q n H) (h : H q = some (.lst vs)) (y : Tri K t (wo q H) v) : Acc K t H0 q (n + 1) (upd H q (.lst (vs ++ [v]))) := by
  obtain ⟨h0, h1, ws, h2, h3, h4⟩ := x
  rw [h] at h2
  cases h2
  refine ⟨same_updN h0 h1, h1, _, upd_same, by rw [List.length_append, h3]; rfl, fun u m => ?_⟩
  rw [wo_upd]
  rcases List.mem_append.mp m with z | z
  · exact h4 u z
  · rw [List.mem_singleton] at z
    subst z
    exact y
/-- _law_parted(thing), _law_valued(thing) -/
def spMade (K : PySem.W.Frag) : Sp := fun vs H Q _ => ∃ (t : V), vs = [t] ∧ ∀ H' q vs, Same H H' → H' q = some (.lst vs) → vs.length ≤ 100 → (∀ v ∈ vs, Tri K t H' v) → Q (.ref q) H'
/-- the i-th class has the field f, and these are its signs -/
structure Fld (K : PySem.W.Frag) (f g s : Str) (i : Nat) : Prop where
  lt : i < 33
  no : PySem.W.findIn K (.ref (ca K i)) f = some none
  ks : kinds i = [g, s]
def tTri (K : PySem.W.Frag) (f g : Str) (j : Nat) (ts : TE) : TE := tTup (tCons (tVar j) (tCons (tLstN (tCons (tC (.str g)) (tCons ts tNil))) (tCons (tErrF K f (tVar j)) tNil)))
section
variable {P : Program} {w : World} {K : PySem.W.Frag} {mg : Str → Option Value} {base : Heap} {fd : FuncData}
theorem fld1 {x f g s : Str} {i : Nat} (D : Err1 P w K mg base x f (ca K i)) (h : i < 33) (k : kinds i = [g, s]) : Fld K f g s i := by
  obtain ⟨fI, fd, M, _⟩ := D.ex
  exact ⟨h, M.no f (by simp), k⟩
theorem tri_ok {σ : L2.St} {H : Hp} {Q : VK} {e : Addr} {i j : Nat} {l : List (Str × V)} {f g s : Str} {t : V} {ts : TE} (T : Top K mg) (F : Fld K f g s i) (v : σ[j]? = some (some (.ref e))) (hs : ∀ H Q, Q (.str s) H → ts σ H Q) (ee : ErrF H e (ca K i) l) (lk : l.lookup f = some t)
    (h : ∀ a l2 H', Same H H' → H' a = some (.tup [.ref e, .ref l2, t]) → H l2 = none → H' l2 = some (.lst ((kinds i).map V.str)) → Q (.ref a) H') : tTri K f g j ts σ H Q := by
  refine ⟨_, v, hs _ _ ⟨(by decide : (2 : Nat) ≤ sizeLine), fun l2 n2 _ => ?_⟩⟩
  have s1 := same_new (o := .lst [.str g, .str s]) n2
  refine ⟨_, v, e, ca K i, l, t, rfl, ee.same s1, (T.ex i F.lt).2, F.no, lk, (by decide : (3 : Nat) ≤ sizeLine), fun a na => ?_⟩
  have s2 := same_new (o := .tup [.ref e, .ref l2, t]) na
  exact h a l2 _ (s1.trans s2) upd_same n2 (s2 _ _ (by rw [upd_same, F.ks]; rfl))
/-- a triple made in a heap that tracks a list at q -/
theorem tri_wo {σ : L2.St} {H : Hp} {Q : VK} {e q : Addr} {i j : Nat} {l : List (Str × V)} {f g s : Str} {t : V} {ts : TE} {ws : List V} (T : Top K mg) (F : Fld K f g s i) (v : σ[j]? = some (some (.ref e))) (hs : ∀ H Q, Q (.str s) H → ts σ H Q) (ee : ErrF H e (ca K i) l) (lk : l.lookup f = some t)
    (hq : H q = some (.lst ws)) (h : ∀ a H', Same H H' → Tri K t (wo q H') (.ref a) → Q (.ref a) H') : tTri K f g j ts σ H Q := by
  refine tri_ok T F v hs ee lk fun a l2 H' s1 ha n2 h2 => h a H' s1 ⟨a, e, l2, i, l, rfl, ?_, ?_, F.lt, errF_wo (ee.same s1) (s1 _ _ hq)⟩
  · rw [wo_ne (fun z => ?_)]
    · exact ha
    · have := s1 _ _ hq
      rw [← z, ha] at this
      cases this
  · rw [wo_ne (fun z => ?_)]
    · exact h2
    · rw [← z, n2] at hq
      cases hq
/-! ### lists of an error and a sign -/
inductive Eg (K : PySem.W.Frag) (f g : Str) (t : V) (H : Hp) : List V → List (Nat × Str) → Prop
  | nil : Eg K f g t H [] []
  | cons {a e : Addr} {i : Nat} {x : Str} {vs : List V} {ps : List (Nat × Str)} : H a = some (.tup [.ref e, .str x]) → ErrF H e (ca K i) [(f, t)] → Fld K f g x i → Eg K f g t H vs ps → Eg K f g t H (.ref a :: vs) ((i, x) :: ps)
theorem Eg.same {f g : Str} {t : V} {H H' : Hp} (s : Same H H') : ∀ {vs : List V} {ps : List (Nat × Str)}, Eg K f g t H vs ps → Eg K f g t H' vs ps
  | _, _, .nil => .nil
  | _, _, .cons h e d r => .cons (s _ _ h) (e.same s) d (Eg.same s r)
theorem Eg.append {f g : Str} {t : V} {H : Hp} : ∀ {vs ws : List V} {ps qs : List (Nat × Str)}, Eg K f g t H vs ps → Eg K f g t H ws qs → Eg K f g t H (vs ++ ws) (ps ++ qs)
  | _, _, _, _, .nil, z => z
  | _, _, _, _, .cons h e d r, z => .cons h e d (Eg.append r z)
theorem Eg.length {f g : Str} {t : V} {H : Hp} : ∀ {vs : List V} {ps : List (Nat × Str)}, Eg K f g t H vs ps → vs.length = ps.length
  | _, _, .nil => rfl
  | _, _, .cons _ _ _ r => congrArg Nat.succ (Eg.length r)
theorem Eg.get {f g : Str} {t : V} {H : Hp} : ∀ {vs : List V} {ps : List (Nat × Str)} {n : Nat} {x : V}, Eg K f g t H vs ps → vs[n]? = some x → ∃ a e i y, x = .ref a ∧ H a = some (.tup [.ref e, .str y]) ∧ ErrF H e (ca K i) [(f, t)] ∧ Fld K f g y i
  | _, _, 0, _, .cons h e d r, z => by
    cases z
    exact ⟨_, _, _, _, rfl, h, e, d⟩
  | _, _, n + 1, _, .cons _ _ _ r, z => Eg.get (n := n) r z
def EgL (K : PySem.W.Frag) (f g : Str) (t : V) (H : Hp) (q : Addr) (ps : List (Nat × Str)) : Prop := ∃ vs, H q = some (.lst vs) ∧ Eg K f g t H vs ps
def tMk (K : PySem.W.Frag) (f : Str) : List (Nat × Str) → TA
  | [] => tNil
  | (i, x) :: r => tCons (tTup (tCons (tErr1 (ca K i) f (tVar 0)) (tCons (tC (.str x)) tNil))) (tMk K f r)
def Flds (K : PySem.W.Frag) (f g : Str) (ps : List (Nat × Str)) : Prop := ∀ p ∈ ps, Fld K f g p.2 p.1
theorem mk_ok {f g : Str} {t : V} {σ : L2.St} (v : σ[0]? = some (some t)) : ∀ (ps : List (Nat × Str)) {H : Hp} {Q : List V → Hp → Prop}, Flds K f g ps → (∀ H' vs, Same H H' → Eg K f g t H' vs ps → Q vs H') → tMk K f ps σ H Q
  | [], H, Q, _, h => h H [] (fun _ _ z => z) .nil
  | (i, x) :: r, H, Q, d, h => by
    refine ⟨_, v, fun e H1 _ s1 ee => ⟨(by decide : (2 : Nat) ≤ sizeLine), fun a na => ?_⟩⟩
    have s2 := same_new (o := .tup [.ref e, .str x]) na
    refine mk_ok v r (fun p m => d p (List.mem_cons_of_mem _ m)) fun H' vs s3 eg => h H' _ ((s1.trans s2).trans s3) (.cons (s3 _ _ upd_same) (ee.same (s2.trans s3)) (d _ List.mem_cons_self) eg)
theorem mkL_ok {f g : Str} {t : V} {σ : L2.St} (v : σ[0]? = some (some t)) (ps : List (Nat × Str)) (few : ps.length ≤ 10) {H : Hp} {Q : VK} (d : Flds K f g ps) (h : ∀ H' q vs, Same H H' → H' q = some (.lst vs) → Eg K f g t H' vs ps → Q (.ref q) H') : tLstN (tMk K f ps) σ H Q := by
  refine mk_ok v ps d fun H' vs s1 eg => ⟨by rw [eg.length, sizeLine_eq]; omega, fun q n _ => ?_⟩
  have s2 := same_new (o := .lst vs) n
  exact h _ q vs (s1.trans s2) upd_same (eg.same s2)
theorem mkP_ok {f g : Str} {t : V} {σ : L2.St} {q : Addr} (v : σ[0]? = some (some t)) (v1 : σ[1]? = some (some (.ref q))) (ps : List (Nat × Str)) (few : ps.length ≤ 10) {H : Hp} {Q : VK} {qs : List (Nat × Str)} (S : EgL K f g t H q qs) (fewq : qs.length ≤ 80) (d : Flds K f g ps)
    (h : ∀ H' q, Same H H' → EgL K f g t H' q (qs ++ ps) → Q (.ref q) H') : tOp rPlus (tVar 1) (tLstN (tMk K f ps)) σ H Q := by
  obtain ⟨vs, hq, eg⟩ := S
  refine ⟨_, v1, mkL_ok v ps few d fun H1 q' ws s1 h1 g1 => ?_⟩
  refine .inr (.inl ⟨_, _, _, _, rfl, rfl, s1 _ _ hq, h1, ?_, fun p n => ?_⟩)
  · rw [eg.length, g1.length, sizeLine_eq]
    omega
  · have s2 := same_new (o := .lst (vs ++ ws)) n
    exact h _ p (s1.trans s2) ⟨_, upd_same, ((eg.same s1).append g1).same s2⟩
theorem wipe2 {σ : L2.St} {j j' : Nat} {a b : Option V} (nj : j ≠ j') : wipe (((wipe σ [j, j']).set j a).set j' b) [j, j'] = wipe σ [j, j'] := by
  simp only [wipe]
  rw [List.set_set, List.set_set, List.set_comm _ _ (Ne.symm nj), List.set_set]
  rw [List.set_comm none none nj, List.set_set]
/-- [(e, ["input", s], e.f) for e, s in made] -/
theorem comp_ok {f g : Str} {t : V} {j j' : Nat} {σ : L2.St} {H : Hp} {Q : VK} {q : Addr} {qs : List (Nat × Str)} (T : Top K mg) (v1 : σ[1]? = some (some (.ref q))) (hj : j < σ.length) (hj' : j' < σ.length) (nj : j ≠ j')
    (S : EgL K f g t H q qs) (few : qs.length ≤ 80) (h : ∀ H' D, Acc K t H D qs.length H' → Q (.ref D) H') :
    tLc (iList K (tVar 1)) (gTup K 2 (gCons (gName j) (gCons (gName j') gNil))) tYes (tTri K f g j (tVar j')) [j, j'] σ H Q := by
  obtain ⟨vs, hq, eg⟩ := S
  refine ⟨_, v1, q, rfl, ⟨vs, SqL.of hq⟩, fun D nD => ?_⟩
  refine lc_list (xs := vs) (fun n H2 => n ≤ vs.length ∧ Acc K t H D n H2) ⟨Nat.zero_le _, same_new nD, nD, [], upd_same, rfl, fun v m => by cases m⟩ (fun n H2 _ p => SqL.of (p.2.1 _ _ hq)) (fun n x H2 hx p => ?_) (fun H2 p => ?_)
  · obtain ⟨ln, p⟩ := p
    obtain ⟨a, e, i, y, rfl, ha, ee, F⟩ := eg.get hx
    have ln1 : n < vs.length := by
      rcases Nat.lt_or_ge n vs.length with z | z
      · exact z
      · rw [List.getElem?_eq_none z] at hx
        cases hx
    refine ⟨a, _, rfl, SqT.of (p.1 _ _ ha), rfl, _, _, rfl, _, _, rfl, rfl, wipe2 nj, ?_⟩
    obtain ⟨ws, hD, hl, hT⟩ := p.2.2
    simp only [tYes, ↓reduceIte]
    refine tri_wo (t := t) T F (e := e) ?_ (fun H Q z => ⟨_, ?_, z⟩) (ee.same p.1) (by simp [List.lookup]) hD fun a' H3 s3 tr => ⟨ws, s3 _ _ hD, ?_, ln1, (Acc.same p s3).more (s3 _ _ hD) tr⟩
    · rw [List.getElem?_set_ne (Ne.symm nj), List.getElem?_set_self (by rw [wipe_length]; exact hj)]
    · rw [List.getElem?_set_self (by rw [List.length_set, wipe_length]; exact hj')]
    · rw [hl, sizeLine_eq]
      have := eg.length
      omega
  · rw [eg.length] at p
    exact h H2 D p.2
/-! ### the loops over two errors -/
def tTwoE (K : PySem.W.Frag) (i : Nat) (f : Str) : TE := tLstN (tCons (tErr1 (ca K i) f (tVar 0)) (tCons (tErr1 (ca K i) f (tVar 0)) tNil))
def tLoop (K : PySem.W.Frag) (i : Nat) (f g s : Str) (j : Nat) : TS := tFor (iList K (tTwoE K i f)) (gName j) (tDrop (tBM K "list" rAppend (tVar 2) (tCons (tTri K f g j (tC (.str s))) tNil)))
def Sv (t : V) (q : Addr) (σ : L2.St) : Prop := σ.length = 11 ∧ σ[0]? = some (some t) ∧ σ[2]? = some (some (.ref q))
theorem loop_ok {f g s : Str} {t : V} {i j n : Nat} {σ : L2.St} {H0 H : Hp} {D : Ends} {q : Addr} (T : Top K mg) (F : Fld K f g s i) (j2 : 2 < j) (j11 : j < 11) (sv : Sv t q σ) (A : Acc K t H0 q n H) (few : n ≤ 80) (h : ∀ σ' H', Sv t q σ' → Acc K t H0 q (n + 2) H' → D.nx σ' H') : tLoop K i f g s j D σ H := by
  refine ⟨_, sv.2.1, fun e1 H1 n1 s1 x1 => ⟨_, sv.2.1, fun e2 H2 n2 s2 x2 => ⟨(by decide : (2 : Nat) ≤ sizeLine), fun L nL _ => ?_⟩⟩⟩
  have s3 := same_new (o := .lst [.ref e1, .ref e2]) nL
  have A3 := A.same ((s1.trans s2).trans s3)
  have x1' := (x1.same s2).same s3
  have x2' := x2.same s3
  have hL : upd H2 L (.lst [.ref e1, .ref e2]) L = some (.lst [.ref e1, .ref e2]) := upd_same
  have nq : L ≠ q := fun z => by
    obtain ⟨_, _, ws, hw, _⟩ := A.same (s1.trans s2)
    rw [z, hw] at nL
    cases nL
  generalize upd H2 L (.lst [.ref e1, .ref e2]) = H3 at A3 x1' x2' hL ⊢
  refine ⟨L, rfl, ⟨_, SqL.of hL⟩, ?_⟩
  refine for_list (xs := [.ref e1, .ref e2]) (fun m σ H => m ≤ 2 ∧ Sv t q σ ∧ Acc K t H0 q (n + m) H ∧ Same (wo q H3) H) ⟨Nat.zero_le _, sv, A3, wo_same⟩ (fun m σ H _ p => SqL.of (p.2.2.2 _ _ (by rw [wo_ne nq]; exact hL))) (fun m x σ H hx p => ?_) (fun σ H p => h σ H p.2.1 p.2.2.1)
  obtain ⟨lm, sv, A, sm⟩ := p
  have w3 : ∃ ws, H3 q = some (.lst ws) := by
    obtain ⟨_, _, ws, hw, _⟩ := A3
    exact ⟨ws, hw⟩
  obtain ⟨ws3, hw3⟩ := w3
  have xe : ∃ e, x = .ref e ∧ ErrF H e (ca K i) [(f, t)] := by
    match m, hx with
    | 0, hx =>
      cases hx
      exact ⟨e1, rfl, (errF_wo x1' hw3).same sm⟩
    | 1, hx =>
      cases hx
      exact ⟨e2, rfl, (errF_wo x2' hw3).same sm⟩
  have lm1 : m < 2 := by
    rcases Nat.lt_or_ge m 2 with z | z
    · exact z
    · rw [List.getElem?_eq_none z] at hx
      cases hx
  obtain ⟨e, rfl, ee⟩ := xe
  obtain ⟨l11, l0, l2⟩ := sv
  have sv' : Sv t q (σ.set j (some (.ref e))) := ⟨by rw [List.length_set]; exact l11, by rw [List.getElem?_set_ne (by omega)]; exact l0, by rw [List.getElem?_set_ne (by omega)]; exact l2⟩
  obtain ⟨ws, hq, hl, _⟩ := A.2.2
  refine ⟨_, sv'.2.2, .inl ⟨rfl, ws, SqL.of hq⟩, ?_⟩
  refine tri_wo (t := t) T F (e := e) (List.getElem?_set_self (by rw [l11]; exact j11)) (fun H Q z => z) ee (by simp [List.lookup]) hq fun a H' s' tr => ⟨q, ws, .ref a, rfl, rfl, s' _ _ hq, by rw [hl, sizeLine_eq]; omega, lm1, sv', (A.same s').more (s' _ _ hq) tr, ?_⟩
  intro b o z
  have nb : b ≠ q := fun y => by
    rw [y] at z
    unfold wo at z
    rw [if_pos rfl] at z
    cases z
  rw [upd_ne nb]
  exact s' _ _ (sm _ _ z)
end
end L2.K00
set_option Elab.async false
set_option linter.all false
set_option maxRecDepth 100000
set_option maxHeartbeats 4000000
/-! Errors made of a thing: the two defs. -/
namespace L2.K00
open PySem PySem.Spec PyProof.Rows L2.RV
section
variable {P : Program} {w : World} {K : PySem.W.Frag} {mg : Str → Option Value} {base : Heap} {fd : FuncData}
theorem flds_nil {f g : Str} : Flds K f g [] := fun p m => by cases m
theorem flds_cons {f g x : Str} {i : Nat} {r : List (Nat × Str)} (F : Fld K f g x i) (h : Flds K f g r) : Flds K f g ((i, x) :: r) := fun p m => by
  rcases List.mem_cons.mp m with z | z
  · subst z
    exact F
  · exact h p z
theorem ret_of {te : TE} {D : Ends} {σ : L2.St} {H : Hp} (h : te σ H D.rt) : tRet te D σ H := h
theorem set_of {te : TE} {i : Nat} {rest : TS} {D : Ends} {σ : L2.St} {H : Hp} (h : te σ H fun v H1 => rest D (σ.set i (some v)) H1) : tSeq (tAsg te (gName i)) rest D σ H := h
theorem seq_of {a b : TS} {D : Ends} {σ : L2.St} {H : Hp} (h : a { D with nx := b D } σ H) : tSeq a b D σ H := h
theorem loopS {f g s : Str} {t : V} {i j n : Nat} {σ : L2.St} {H0 H : Hp} {D : Ends} {q : Addr} {rest : TS} (T : Top K mg) (F : Fld K f g s i) (j2 : 2 < j) (j11 : j < 11) (sv : Sv t q σ) (A : Acc K t H0 q n H) (few : n ≤ 80) (h : ∀ σ' H', Sv t q σ' → Acc K t H0 q (n + 2) H' → rest D σ' H') : tSeq (tLoop K i f g s j) rest D σ H :=
  seq_of (loop_ok T F j2 j11 sv A few h)
theorem to_state {t : TS} {D : Ends} {σ σ' : L2.St} {H : Hp} (e : σ = σ') (h : t D σ' H) : t D σ H := e ▸ h
theorem firstE {f g : Str} {t : V} {D : Ends} {rest : TS} {r : L2.St} {H : Hp} (ps : List (Nat × Str)) (few : ps.length ≤ 10) (d : Flds K f g ps) (h : ∀ q H', Same H H' → EgL K f g t H' q ps → rest D (some t :: some (.ref q) :: r) H') : tSeq (tAsg (tLstN (tMk K f ps)) (gName 1)) rest D (some t :: none :: r) H := by
  show tLstN (tMk K f ps) (some t :: none :: r) H (fun v H1 => rest D (some t :: some v :: r) H1)
  exact mkL_ok rfl ps few d fun H' q vs s a b => h q H' s ⟨vs, a, b⟩
theorem moreE {f g : Str} {t : V} {D : Ends} {rest : TS} {r : L2.St} {H : Hp} {q : Addr} {qs : List (Nat × Str)} (ps : List (Nat × Str)) (S : EgL K f g t H q qs) (few : ps.length ≤ 10) (fewq : qs.length ≤ 80) (d : Flds K f g ps)
    (h : ∀ q H', Same H H' → EgL K f g t H' q (qs ++ ps) → rest D (some t :: some (.ref q) :: r) H') : tSeq (tAsg (tOp rPlus (tVar 1) (tLstN (tMk K f ps))) (gName 1)) rest D (some t :: some (.ref q) :: r) H := by
  show tOp rPlus (tVar 1) (tLstN (tMk K f ps)) (some t :: some (.ref q) :: r) H (fun v H1 => rest D (some t :: some v :: r) H1)
  exact mkP_ok rfl rfl ps few S fewq d fun H' q s a => h q H' s a
theorem ok_law_parted (T : Top K mg) (D_BadShape : Err1 P w K mg base "BadShape" "part" (ca K 4)) (D_BadTable : Err1 P w K mg base "BadTable" "part" (ca K 5)) (D_BadPart : Err1 P w K mg base "BadPart" "part" (ca K 6)) (D_BadQuestion : Err1 P w K mg base "BadQuestion" "part" (ca K 7)) (D_BadSpan : Err1 P w K mg base "BadSpan" "part" (ca K 8)) (D_BadKind : Err1 P w K mg base "BadKind" "part" (ca K 9)) (D_BadLayout : Err1 P w K mg base "BadLayout" "part" (ca K 10)) (D_BadRule : Err1 P w K mg base "BadRule" "part" (ca K 11)) (D_BadPlan : Err1 P w K mg base "BadPlan" "part" (ca K 12)) (D_BadOrder : Err1 P w K mg base "BadOrder" "part" (ca K 15)) (D_BadVault : Err1 P w K mg base "BadVault" "part" (ca K 16)) (D_BadBook : Err1 P w K mg base "BadBook" "part" (ca K 17)) (D_BadPoly : Err1 P w K mg base "BadPoly" "part" (ca K 13)) (D_BadSites : Err1 P w K mg base "BadSites" "part" (ca K 14)) (F : Fn K "_law_parted" s_law_parted fd) : FnOk P w K mg base CX0 3 (He.ga K "_law_parted") fd ["_law_thing"] (spMade K) := by
  refine F.ok sc_law_parted (fun vs H Q E h => ?_) (fun cdv A outer s H vs Q E hr h => ?_)
  · obtain ⟨t, rfl, _⟩ := h
    rfl
  · obtain ⟨t, rfl, k⟩ := h
    refine ⟨_, PSs.nox (pss_cons (ps_set (i := 1) sc_law_parted.nd rfl (Or.inl rfl) (pe_lstN (pa_cons (pe_tup (pa_cons (pe_err1 D_BadShape (hr.mono (by decide)) rfl (pv 0)) (pa_cons pe_str pa_nil))) (pa_cons (pe_tup (pa_cons (pe_err1K D_BadShape (hr.mono (by decide)) rfl (pv 0)) (pa_cons pe_str pa_nil))) (pa_cons (pe_tup (pa_cons (pe_err1 D_BadTable (hr.mono (by decide)) rfl (pv 0)) (pa_cons pe_str pa_nil))) pa_nil)))))
      (pss_cons (ps_set (i := 1) sc_law_parted.nd rfl (Or.inl rfl) (pe_op op_plus (pv 1) (pe_lstN (pa_cons (pe_tup (pa_cons (pe_err1K D_BadTable (hr.mono (by decide)) rfl (pv 0)) (pa_cons pe_str pa_nil))) (pa_cons (pe_tup (pa_cons (pe_err1 D_BadPart (hr.mono (by decide)) rfl (pv 0)) (pa_cons pe_str pa_nil))) (pa_cons (pe_tup (pa_cons (pe_err1K D_BadPart (hr.mono (by decide)) rfl (pv 0)) (pa_cons pe_str pa_nil))) pa_nil))))))
      (pss_cons (ps_set (i := 1) sc_law_parted.nd rfl (Or.inl rfl) (pe_op op_plus (pv 1) (pe_lstN (pa_cons (pe_tup (pa_cons (pe_err1 D_BadQuestion (hr.mono (by decide)) rfl (pv 0)) (pa_cons pe_str pa_nil))) (pa_cons (pe_tup (pa_cons (pe_err1K D_BadQuestion (hr.mono (by decide)) rfl (pv 0)) (pa_cons pe_str pa_nil))) (pa_cons (pe_tup (pa_cons (pe_err1 D_BadSpan (hr.mono (by decide)) rfl (pv 0)) (pa_cons pe_str pa_nil))) pa_nil))))))
      (pss_cons (ps_set (i := 1) sc_law_parted.nd rfl (Or.inl rfl) (pe_op op_plus (pv 1) (pe_lstN (pa_cons (pe_tup (pa_cons (pe_err1K D_BadSpan (hr.mono (by decide)) rfl (pv 0)) (pa_cons pe_str pa_nil))) (pa_cons (pe_tup (pa_cons (pe_err1 D_BadKind (hr.mono (by decide)) rfl (pv 0)) (pa_cons pe_str pa_nil))) (pa_cons (pe_tup (pa_cons (pe_err1K D_BadKind (hr.mono (by decide)) rfl (pv 0)) (pa_cons pe_str pa_nil))) pa_nil))))))
      (pss_cons (ps_set (i := 1) sc_law_parted.nd rfl (Or.inl rfl) (pe_op op_plus (pv 1) (pe_lstN (pa_cons (pe_tup (pa_cons (pe_err1 D_BadLayout (hr.mono (by decide)) rfl (pv 0)) (pa_cons pe_str pa_nil))) (pa_cons (pe_tup (pa_cons (pe_err1K D_BadLayout (hr.mono (by decide)) rfl (pv 0)) (pa_cons pe_str pa_nil))) (pa_cons (pe_tup (pa_cons (pe_err1 D_BadRule (hr.mono (by decide)) rfl (pv 0)) (pa_cons pe_str pa_nil))) pa_nil))))))
      (pss_cons (ps_set (i := 1) sc_law_parted.nd rfl (Or.inl rfl) (pe_op op_plus (pv 1) (pe_lstN (pa_cons (pe_tup (pa_cons (pe_err1K D_BadRule (hr.mono (by decide)) rfl (pv 0)) (pa_cons pe_str pa_nil))) (pa_cons (pe_tup (pa_cons (pe_err1 D_BadPlan (hr.mono (by decide)) rfl (pv 0)) (pa_cons pe_str pa_nil))) (pa_cons (pe_tup (pa_cons (pe_err1K D_BadPlan (hr.mono (by decide)) rfl (pv 0)) (pa_cons pe_str pa_nil))) pa_nil))))))
      (pss_cons (ps_set (i := 1) sc_law_parted.nd rfl (Or.inl rfl) (pe_op op_plus (pv 1) (pe_lstN (pa_cons (pe_tup (pa_cons (pe_err1 D_BadOrder (hr.mono (by decide)) rfl (pv 0)) (pa_cons pe_str pa_nil))) (pa_cons (pe_tup (pa_cons (pe_err1K D_BadOrder (hr.mono (by decide)) rfl (pv 0)) (pa_cons pe_str pa_nil))) (pa_cons (pe_tup (pa_cons (pe_err1 D_BadVault (hr.mono (by decide)) rfl (pv 0)) (pa_cons pe_str pa_nil))) pa_nil))))))
      (pss_cons (ps_set (i := 1) sc_law_parted.nd rfl (Or.inl rfl) (pe_op op_plus (pv 1) (pe_lstN (pa_cons (pe_tup (pa_cons (pe_err1K D_BadVault (hr.mono (by decide)) rfl (pv 0)) (pa_cons pe_str pa_nil))) (pa_cons (pe_tup (pa_cons (pe_err1 D_BadBook (hr.mono (by decide)) rfl (pv 0)) (pa_cons pe_str pa_nil))) (pa_cons (pe_tup (pa_cons (pe_err1K D_BadBook (hr.mono (by decide)) rfl (pv 0)) (pa_cons pe_str pa_nil))) pa_nil))))))
      (pss_cons (ps_set (i := 1) sc_law_parted.nd rfl (Or.inl rfl) (pe_op op_plus (pv 1) (pe_lstN (pa_cons (pe_tup (pa_cons (pe_err1 D_BadPoly (hr.mono (by decide)) rfl (pv 0)) (pa_cons pe_str pa_nil))) (pa_cons (pe_tup (pa_cons (pe_err1K D_BadPoly (hr.mono (by decide)) rfl (pv 0)) (pa_cons pe_str pa_nil))) (pa_cons (pe_tup (pa_cons (pe_err1 D_BadSites (hr.mono (by decide)) rfl (pv 0)) (pa_cons pe_str pa_nil))) pa_nil))))))
      (pss_cons (ps_set (i := 1) sc_law_parted.nd rfl (Or.inl rfl) (pe_op op_plus (pv 1) (pe_lstN (pa_cons (pe_tup (pa_cons (pe_err1K D_BadSites (hr.mono (by decide)) rfl (pv 0)) (pa_cons pe_str pa_nil))) pa_nil))))
      (pss_one (ps_ret (pe_lc (own := [("_law_error", 2), ("_law_sign", 3)]) (g := gTup K 2 (gCons (gName 2) (gCons (gName 3) gNil))) (te := tTup (tCons (tVar 2) (tCons (tLstN (tCons (tC (.str "input")) (tCons (tVar 3) tNil))) (tCons (tErrF K "part" (tVar 2)) tNil)))) (tt := tYes) (by rfl) sc_law_parted.nd (pi_list (pv 1)) (blkOk_by (own := [("_law_error", 2), ("_law_sign", 3)]) (N := ["_law_thing", "_law_made", "_law_error", "_law_sign"]) (sc := defScope s_law_parted) (by decide +kernel)) (fun _ _ _ _ _ => by exact (pg_tup rfl (pgs_cons (pg_name (i := 2) sc_law_parted.nd rfl (Or.inl rfl)) (pgs_cons (pg_name (i := 3) sc_law_parted.nd rfl (Or.inl rfl)) pgs_nil)))) (fun _ _ _ _ _ => by exact pts_nil) (fun _ _ _ _ _ => by exact (pe_tup (pa_cons (pv 2) (pa_cons (pe_lstN (pa_cons pe_str (pa_cons (pv 3) pa_nil))) (pa_cons (pe_errF (pv 2)) pa_nil)))))))))))))))))), ?_⟩
    refine firstE (g := "input") (r := [none, none]) [(4, "shape"), (4, "shape"), (5, "table")] (by decide) (flds_cons (fld1 D_BadShape (by decide) (by decide +kernel)) (flds_cons (fld1 D_BadShape (by decide) (by decide +kernel)) (flds_cons (fld1 D_BadTable (by decide) (by decide +kernel)) flds_nil))) fun q0 H0 s0 S0 => ?_
    have t0 := s0
    refine moreE (g := "input") [(5, "table"), (6, "part"), (6, "part")] S0 (by decide) (by decide) (flds_cons (fld1 D_BadTable (by decide) (by decide +kernel)) (flds_cons (fld1 D_BadPart (by decide) (by decide +kernel)) (flds_cons (fld1 D_BadPart (by decide) (by decide +kernel)) flds_nil))) fun q1 H1 s1 S1 => ?_
    have t1 := t0.trans s1
    refine moreE (g := "input") [(7, "question"), (7, "question"), (8, "span")] S1 (by decide) (by decide) (flds_cons (fld1 D_BadQuestion (by decide) (by decide +kernel)) (flds_cons (fld1 D_BadQuestion (by decide) (by decide +kernel)) (flds_cons (fld1 D_BadSpan (by decide) (by decide +kernel)) flds_nil))) fun q2 H2 s2 S2 => ?_
    have t2 := t1.trans s2
    refine moreE (g := "input") [(8, "span"), (9, "kind"), (9, "kind")] S2 (by decide) (by decide) (flds_cons (fld1 D_BadSpan (by decide) (by decide +kernel)) (flds_cons (fld1 D_BadKind (by decide) (by decide +kernel)) (flds_cons (fld1 D_BadKind (by decide) (by decide +kernel)) flds_nil))) fun q3 H3 s3 S3 => ?_
    have t3 := t2.trans s3
    refine moreE (g := "input") [(10, "layout"), (10, "layout"), (11, "rule")] S3 (by decide) (by decide) (flds_cons (fld1 D_BadLayout (by decide) (by decide +kernel)) (flds_cons (fld1 D_BadLayout (by decide) (by decide +kernel)) (flds_cons (fld1 D_BadRule (by decide) (by decide +kernel)) flds_nil))) fun q4 H4 s4 S4 => ?_
    have t4 := t3.trans s4
    refine moreE (g := "input") [(11, "rule"), (12, "plan"), (12, "plan")] S4 (by decide) (by decide) (flds_cons (fld1 D_BadRule (by decide) (by decide +kernel)) (flds_cons (fld1 D_BadPlan (by decide) (by decide +kernel)) (flds_cons (fld1 D_BadPlan (by decide) (by decide +kernel)) flds_nil))) fun q5 H5 s5 S5 => ?_
    have t5 := t4.trans s5
    refine moreE (g := "input") [(15, "order"), (15, "order"), (16, "vault")] S5 (by decide) (by decide) (flds_cons (fld1 D_BadOrder (by decide) (by decide +kernel)) (flds_cons (fld1 D_BadOrder (by decide) (by decide +kernel)) (flds_cons (fld1 D_BadVault (by decide) (by decide +kernel)) flds_nil))) fun q6 H6 s6 S6 => ?_
    have t6 := t5.trans s6
    refine moreE (g := "input") [(16, "vault"), (17, "book"), (17, "book")] S6 (by decide) (by decide) (flds_cons (fld1 D_BadVault (by decide) (by decide +kernel)) (flds_cons (fld1 D_BadBook (by decide) (by decide +kernel)) (flds_cons (fld1 D_BadBook (by decide) (by decide +kernel)) flds_nil))) fun q7 H7 s7 S7 => ?_
    have t7 := t6.trans s7
    refine moreE (g := "input") [(13, "poly"), (13, "poly"), (14, "sites")] S7 (by decide) (by decide) (flds_cons (fld1 D_BadPoly (by decide) (by decide +kernel)) (flds_cons (fld1 D_BadPoly (by decide) (by decide +kernel)) (flds_cons (fld1 D_BadSites (by decide) (by decide +kernel)) flds_nil))) fun q8 H8 s8 S8 => ?_
    have t8 := t7.trans s8
    refine moreE (g := "input") [(14, "sites")] S8 (by decide) (by decide) (flds_cons (fld1 D_BadSites (by decide) (by decide +kernel)) flds_nil) fun q9 H9 s9 S9 => ?_
    have t9 := t8.trans s9
    refine ret_of ?_
    refine comp_ok (f := "part") (g := "input") (t := t) (j := 2) (j' := 3) T rfl (Nat.lt_of_sub_pos (Nat.zero_lt_succ 1)) (Nat.lt_of_sub_pos (Nat.zero_lt_succ 0)) (by decide) S9 (by decide) fun H' D A => ?_
    obtain ⟨a1, a2, vs, a3, a4, a5⟩ := A
    exact k _ _ _ (t9.trans a1) a3 (by rw [a4]; decide) (fun v m => (a5 v m).same wo_same)
theorem ok_law_valued (T : Top K mg) (D_BadLine : Err1 P w K mg base "BadLine" "word" (ca K 24)) (D_Untold : Err1 P w K mg base "Untold" "paper" (ca K 26)) (D_Gone : Err1 P w K mg base "Gone" "unit" (ca K 27)) (D_Taken : Err1 P w K mg base "Taken" "name" (ca K 29)) (D_NoUnit : Err1 P w K mg base "NoUnit" "unit" (ca K 30)) (D_NoName : Err1 P w K mg base "NoName" "name" (ca K 31)) (D_BadPlace : Err1 P w K mg base "BadPlace" "value" (ca K 18)) (D_BadAmount : Err1 P w K mg base "BadAmount" "value" (ca K 19)) (D_BadUnit : Err1 P w K mg base "BadUnit" "value" (ca K 20)) (D_BadCount : Err1 P w K mg base "BadCount" "value" (ca K 21)) (D_BadName : Err1 P w K mg base "BadName" "value" (ca K 22)) (F : Fn K "_law_valued" s_law_valued fd) : FnOk P w K mg base CX0 3 (He.ga K "_law_valued") fd ["_law_thing"] (spMade K) := by
  refine F.ok sc_law_valued (fun vs H Q E h => ?_) (fun cdv A outer s H vs Q E hr h => ?_)
  · obtain ⟨t, rfl, _⟩ := h
    rfl
  · obtain ⟨t, rfl, k⟩ := h
    refine ⟨_, PSs.nox (pss_cons (ps_set (i := 1) sc_law_valued.nd rfl (Or.inl rfl) (pe_lstN (pa_cons (pe_tup (pa_cons (pe_err1 D_BadPlace (hr.mono (by decide)) rfl (pv 0)) (pa_cons pe_str pa_nil))) (pa_cons (pe_tup (pa_cons (pe_err1K D_BadPlace (hr.mono (by decide)) rfl (pv 0)) (pa_cons pe_str pa_nil))) (pa_cons (pe_tup (pa_cons (pe_err1 D_BadAmount (hr.mono (by decide)) rfl (pv 0)) (pa_cons pe_str pa_nil))) pa_nil)))))
      (pss_cons (ps_set (i := 1) sc_law_valued.nd rfl (Or.inl rfl) (pe_op op_plus (pv 1) (pe_lstN (pa_cons (pe_tup (pa_cons (pe_err1K D_BadAmount (hr.mono (by decide)) rfl (pv 0)) (pa_cons pe_str pa_nil))) (pa_cons (pe_tup (pa_cons (pe_err1 D_BadUnit (hr.mono (by decide)) rfl (pv 0)) (pa_cons pe_str pa_nil))) (pa_cons (pe_tup (pa_cons (pe_err1K D_BadUnit (hr.mono (by decide)) rfl (pv 0)) (pa_cons pe_str pa_nil))) pa_nil))))))
      (pss_cons (ps_set (i := 1) sc_law_valued.nd rfl (Or.inl rfl) (pe_op op_plus (pv 1) (pe_lstN (pa_cons (pe_tup (pa_cons (pe_err1 D_BadCount (hr.mono (by decide)) rfl (pv 0)) (pa_cons pe_str pa_nil))) (pa_cons (pe_tup (pa_cons (pe_err1K D_BadCount (hr.mono (by decide)) rfl (pv 0)) (pa_cons pe_str pa_nil))) (pa_cons (pe_tup (pa_cons (pe_err1 D_BadName (hr.mono (by decide)) rfl (pv 0)) (pa_cons pe_str pa_nil))) pa_nil))))))
      (pss_cons (ps_set (i := 1) sc_law_valued.nd rfl (Or.inl rfl) (pe_op op_plus (pv 1) (pe_lstN (pa_cons (pe_tup (pa_cons (pe_err1K D_BadName (hr.mono (by decide)) rfl (pv 0)) (pa_cons pe_str pa_nil))) pa_nil))))
      (pss_cons (ps_setLc (i := 2) (own := [("_law_error", 9), ("_law_sign", 10)]) (g := gTup K 2 (gCons (gName 9) (gCons (gName 10) gNil))) (te := tTup (tCons (tVar 9) (tCons (tLstN (tCons (tC (.str "input")) (tCons (tVar 10) tNil))) (tCons (tErrF K "value" (tVar 9)) tNil)))) (tt := tYes) (by rfl) sc_law_valued.nd rfl rfl (sw_true rfl rfl rfl (by decide +kernel)) (pi_list (pv 1)) (blkOk_by (own := [("_law_error", 9), ("_law_sign", 10)]) (N := ["_law_thing", "_law_made", "_law_found", "_law_line_so", "_law_untold_so", "_law_gone_so", "_law_taken_so", "_law_unit_so", "_law_name_so", "_law_error", "_law_sign"]) (sc := defScope s_law_valued) (by decide +kernel)) (fun _ _ _ _ _ => by exact (pg_tup rfl (pgs_cons (pg_name (i := 9) sc_law_valued.nd rfl (Or.inl rfl)) (pgs_cons (pg_name (i := 10) sc_law_valued.nd rfl (Or.inl rfl)) pgs_nil)))) (fun _ _ _ _ _ => by exact pts_nil) (fun _ _ _ _ _ => by exact (pe_tup (pa_cons (pv 9) (pa_cons (pe_lstN (pa_cons pe_str (pa_cons (pv 10) pa_nil))) (pa_cons (pe_errF (pv 9)) pa_nil))))))
      (pss_cons (ps_for PassesOwn.never rfl (pi_list (pe_lstN (pa_cons (pe_err1 D_BadLine (hr.mono (by decide)) rfl (pv 0)) (pa_cons (pe_err1K D_BadLine (hr.mono (by decide)) rfl (pv 0)) pa_nil)))) (pg_name (i := 3) sc_law_valued.nd rfl (Or.inl rfl)) (pss_one (ps_expr (pe_bm PySem.F.plainAttrs_list PySem.F.slot_list_append PySem.F.type_list_append mt_append (pv 2) (pa_cons (pe_tup (pa_cons (pv 3) (pa_cons (pe_lstN (pa_cons pe_str (pa_cons pe_str pa_nil))) (pa_cons (pe_errF (pv 3)) pa_nil)))) pa_nil)))))
      (pss_cons (ps_for PassesOwn.never rfl (pi_list (pe_lstN (pa_cons (pe_err1 D_Untold (hr.mono (by decide)) rfl (pv 0)) (pa_cons (pe_err1K D_Untold (hr.mono (by decide)) rfl (pv 0)) pa_nil)))) (pg_name (i := 4) sc_law_valued.nd rfl (Or.inl rfl)) (pss_one (ps_expr (pe_bm PySem.F.plainAttrs_list PySem.F.slot_list_append PySem.F.type_list_append mt_append (pv 2) (pa_cons (pe_tup (pa_cons (pv 4) (pa_cons (pe_lstN (pa_cons pe_str (pa_cons pe_str pa_nil))) (pa_cons (pe_errF (pv 4)) pa_nil)))) pa_nil)))))
      (pss_cons (ps_for PassesOwn.never rfl (pi_list (pe_lstN (pa_cons (pe_err1 D_Gone (hr.mono (by decide)) rfl (pv 0)) (pa_cons (pe_err1K D_Gone (hr.mono (by decide)) rfl (pv 0)) pa_nil)))) (pg_name (i := 5) sc_law_valued.nd rfl (Or.inl rfl)) (pss_one (ps_expr (pe_bm PySem.F.plainAttrs_list PySem.F.slot_list_append PySem.F.type_list_append mt_append (pv 2) (pa_cons (pe_tup (pa_cons (pv 5) (pa_cons (pe_lstN (pa_cons pe_str (pa_cons pe_str pa_nil))) (pa_cons (pe_errF (pv 5)) pa_nil)))) pa_nil)))))
      (pss_cons (ps_for PassesOwn.never rfl (pi_list (pe_lstN (pa_cons (pe_err1 D_Taken (hr.mono (by decide)) rfl (pv 0)) (pa_cons (pe_err1K D_Taken (hr.mono (by decide)) rfl (pv 0)) pa_nil)))) (pg_name (i := 6) sc_law_valued.nd rfl (Or.inl rfl)) (pss_one (ps_expr (pe_bm PySem.F.plainAttrs_list PySem.F.slot_list_append PySem.F.type_list_append mt_append (pv 2) (pa_cons (pe_tup (pa_cons (pv 6) (pa_cons (pe_lstN (pa_cons pe_str (pa_cons pe_str pa_nil))) (pa_cons (pe_errF (pv 6)) pa_nil)))) pa_nil)))))
      (pss_cons (ps_for PassesOwn.never rfl (pi_list (pe_lstN (pa_cons (pe_err1 D_NoUnit (hr.mono (by decide)) rfl (pv 0)) (pa_cons (pe_err1K D_NoUnit (hr.mono (by decide)) rfl (pv 0)) pa_nil)))) (pg_name (i := 7) sc_law_valued.nd rfl (Or.inl rfl)) (pss_one (ps_expr (pe_bm PySem.F.plainAttrs_list PySem.F.slot_list_append PySem.F.type_list_append mt_append (pv 2) (pa_cons (pe_tup (pa_cons (pv 7) (pa_cons (pe_lstN (pa_cons pe_str (pa_cons pe_str pa_nil))) (pa_cons (pe_errF (pv 7)) pa_nil)))) pa_nil)))))
      (pss_cons (ps_for PassesOwn.never rfl (pi_list (pe_lstN (pa_cons (pe_err1 D_NoName (hr.mono (by decide)) rfl (pv 0)) (pa_cons (pe_err1K D_NoName (hr.mono (by decide)) rfl (pv 0)) pa_nil)))) (pg_name (i := 8) sc_law_valued.nd rfl (Or.inl rfl)) (pss_one (ps_expr (pe_bm PySem.F.plainAttrs_list PySem.F.slot_list_append PySem.F.type_list_append mt_append (pv 2) (pa_cons (pe_tup (pa_cons (pv 8) (pa_cons (pe_lstN (pa_cons pe_str (pa_cons pe_str pa_nil))) (pa_cons (pe_errF (pv 8)) pa_nil)))) pa_nil)))))
      (pss_one (ps_ret (pv 2)))))))))))))), ?_⟩
    refine firstE (g := "input") (r := [none, none, none, none, none, none, none, none, none]) [(18, "place"), (18, "place"), (19, "amount")] (by decide) (flds_cons (fld1 D_BadPlace (by decide) (by decide +kernel)) (flds_cons (fld1 D_BadPlace (by decide) (by decide +kernel)) (flds_cons (fld1 D_BadAmount (by decide) (by decide +kernel)) flds_nil))) fun q0 H0 s0 S0 => ?_
    have t0 := s0
    refine moreE (g := "input") [(19, "amount"), (20, "unit"), (20, "unit")] S0 (by decide) (by decide) (flds_cons (fld1 D_BadAmount (by decide) (by decide +kernel)) (flds_cons (fld1 D_BadUnit (by decide) (by decide +kernel)) (flds_cons (fld1 D_BadUnit (by decide) (by decide +kernel)) flds_nil))) fun q1 H1 s1 S1 => ?_
    have t1 := t0.trans s1
    refine moreE (g := "input") [(21, "count"), (21, "count"), (22, "name")] S1 (by decide) (by decide) (flds_cons (fld1 D_BadCount (by decide) (by decide +kernel)) (flds_cons (fld1 D_BadCount (by decide) (by decide +kernel)) (flds_cons (fld1 D_BadName (by decide) (by decide +kernel)) flds_nil))) fun q2 H2 s2 S2 => ?_
    have t2 := t1.trans s2
    refine moreE (g := "input") [(22, "name")] S2 (by decide) (by decide) (flds_cons (fld1 D_BadName (by decide) (by decide +kernel)) flds_nil) fun q3 H3 s3 S3 => ?_
    have t3 := t2.trans s3
    refine set_of ?_
    refine comp_ok (f := "value") (g := "input") (t := t) (j := 9) (j' := 10) T rfl (Nat.lt_of_sub_pos (Nat.zero_lt_succ 1)) (Nat.lt_of_sub_pos (Nat.zero_lt_succ 0)) (by decide) S3 (by decide) fun H' q A => ?_
    refine to_state (σ' := [some t, some (.ref q3), some (.ref q), none, none, none, none, none, none, none, none]) rfl ?_
    have sv : Sv t q [some t, some (.ref q3), some (.ref q), none, none, none, none, none, none, none, none] := ⟨rfl, rfl, rfl⟩
    refine loopS (f := "word") (g := "input") (s := "line") (i := 24) (j := 3) T (fld1 D_BadLine (by decide) (by decide +kernel)) (by decide) (by decide) sv A (by decide) fun σ0 H100 sv0 A0 => ?_
    refine loopS (f := "paper") (g := "refused") (s := "untold") (i := 26) (j := 4) T (fld1 D_Untold (by decide) (by decide +kernel)) (by decide) (by decide) sv0 A0 (by decide) fun σ1 H101 sv1 A1 => ?_
    refine loopS (f := "unit") (g := "refused") (s := "gone") (i := 27) (j := 5) T (fld1 D_Gone (by decide) (by decide +kernel)) (by decide) (by decide) sv1 A1 (by decide) fun σ2 H102 sv2 A2 => ?_
    refine loopS (f := "name") (g := "refused") (s := "taken") (i := 29) (j := 6) T (fld1 D_Taken (by decide) (by decide +kernel)) (by decide) (by decide) sv2 A2 (by decide) fun σ3 H103 sv3 A3 => ?_
    refine loopS (f := "unit") (g := "answer") (s := "no unit") (i := 30) (j := 7) T (fld1 D_NoUnit (by decide) (by decide +kernel)) (by decide) (by decide) sv3 A3 (by decide) fun σ4 H104 sv4 A4 => ?_
    refine loopS (f := "name") (g := "answer") (s := "no name") (i := 31) (j := 8) T (fld1 D_NoName (by decide) (by decide +kernel)) (by decide) (by decide) sv4 A4 (by decide) fun σ5 H105 sv5 A5 => ?_
    refine ⟨_, sv5.2.2, ?_⟩
    obtain ⟨a1, a2, vs, a3, a4, a5⟩ := A5
    exact k _ _ _ (t3.trans a1) a3 (by rw [a4]; decide) (fun v m => (a5 v m).same wo_same)
end
end L2.K00
set_option Elab.async false
set_option linter.all false
set_option maxRecDepth 100000
set_option maxHeartbeats 4000000
/-! Errors of two fields. -/
namespace L2.K00
open PySem PySem.Spec PyProof.Rows L2.RV
/-- what repr asks of a list of two good values -/
theorem good_pair {d1 d2 : PyData} (s1 : d1.showable = true) (s2 : d2.showable = true) (n1 : d1.depth ≤ 50) (n2 : d2.depth ≤ 50) (l1 : d1.shown.length ≤ 1000) (l2 : d2.shown.length ≤ 1000) :
    (PyData.list [d1, d2]).showable = true ∧ (PyData.list [d1, d2]).depth ≤ 60 ∧ (PyData.list [d1, d2]).shown.length ≤ sizeLine := by
  refine ⟨?_, ?_, ?_⟩
  · simp only [PyData.showable, PyData.showableAll, s1, s2, Bool.and_self]
  · simp only [PyData.depth, PyData.depthAll]
    omega
  · rw [PyData.shown_list, Str.length_append, Str.length_append, PyData.shownAll_cons, PyData.shownAll_cons, PyData.shownAll_nil, sizeLine_eq]
    have z := join_length_add [d1.shown, d2.shown] (by simp)
    have e1 : ("[" : Str).length = 1 := by decide
    have e2 : ("]" : Str).length = 1 := by decide
    rw [piled_cons, piled_cons, piled_nil] at z
    omega
/-- n times True stand in the list at q, new since H0 -/
def Told (H0 : Hp) (q : Addr) (n : Nat) (H : Hp) : Prop := Same H0 H ∧ H0 q = none ∧ H q = some (.lst (List.replicate n (.bl true)))
theorem Told.same {H0 H H' : Hp} {q : Addr} {n : Nat} (x : Told H0 q n H) (s : Same H H') : Told H0 q n H' := ⟨x.1.trans s, x.2.1, s _ _ x.2.2⟩
theorem Told.more {H0 H : Hp} {q : Addr} {n : Nat} (x : Told H0 q n H) : Told H0 q (n + 1) (upd H q (.lst (List.replicate n (.bl true) ++ [.bl true]))) := ⟨same_updN x.1 x.2.1, x.2.1, by rw [upd_same, List.replicate_succ']⟩
structure Fld2 (K : PySem.W.Frag) (f g a b : Str) (i : Nat) : Prop where
  lt : i < 33
  no1 : PySem.W.findIn K (.ref (ca K i)) f = some none
  no2 : PySem.W.findIn K (.ref (ca K i)) g = some none
  ks : kinds i = [a, b]
  ok : ([a, b].all fun x => PyData.strOk x) = true
  ne : f ≠ g
def tTwo2 (K : PySem.W.Frag) (i : Nat) (f g : Str) : TE := tLstN (tCons (tErr2 (ca K i) f g (tVar 0) (tVar 1)) (tCons (tErr2R (ca K i) f g (tVar 1) (tVar 0)) tNil))
def tKin (K : PySem.W.Frag) (a b : Str) (j : Nat) : TE := tOp (rSame K) (tCall (spKinds K) [] E0 (tCons (tVar j) tNil)) (tLstN (tCons (tC (.str a)) (tCons (tC (.str b)) tNil)))
def tRep (K : PySem.W.Frag) (f g : Str) (j : Nat) : TE := tOp (rSame K) (tCB (rRepr K) (tCons (tLstN (tCons (tErrF K f (tVar j)) (tCons (tErrF K g (tVar j)) tNil))) tNil)) (tCB (rRepr K) (tCons (tLstN (tCons (tVar 0) (tCons (tVar 1) tNil))) tNil))
def tBoth (K : PySem.W.Frag) (f g a b : Str) (j : Nat) : TS := tSeq (tDrop (tBM K "list" rAppend (tVar 2) (tCons (tKin K a b j) tNil))) (tDrop (tBM K "list" rAppend (tVar 2) (tCons (tRep K f g j) tNil)))
def tLoop2 (K : PySem.W.Frag) (i : Nat) (f g a b : Str) (j : Nat) : TS := tFor (iList K (tTwo2 K i f g)) (gName j) (tBoth K f g a b j)
def Sv5 (t m : V) (q : Addr) (σ : L2.St) : Prop := σ.length = 5 ∧ σ[0]? = some (some t) ∧ σ[1]? = some (some m) ∧ σ[2]? = some (some (.ref q))
/-- _law_pairs_right(thing, more) -/
def spPairs (K : PySem.W.Frag) : Sp := fun vs H Q _ => ∃ (p : Addr) (t m : V) (o : HO), vs = [t, m] ∧ H p = some o ∧ Good K p H t ∧ Good K p H m ∧ ∀ H', Same H H' → Q (.bl true) H'
section
variable {P : Program} {w : World} {K : PySem.W.Frag} {mg : Str → Option Value} {base : Heap} {fd : FuncData}
theorem set_new {i : Nat} {rest : TS} {D : Ends} {σ : L2.St} {H : Hp} (h : ∀ q, H q = none → rest D (σ.set i (some (.ref q))) (upd H q (.lst []))) : tSeq (tAsg (tLstN tNil) (gName i)) rest D σ H :=
  ⟨(by decide : (0 : Nat) ≤ sizeLine), fun q nq _ => h q nq⟩
theorem fld2 {x f g a b : Str} {i : Nat} (D : Err2 P w K mg base x f g (ca K i)) (h : i < 33) (k : kinds i = [a, b]) (ok : ([a, b].all fun x => PyData.strOk x) = true) (ne : f ≠ g) : Fld2 K f g a b i := by
  obtain ⟨fI, fd, M, _⟩ := D.ex
  exact ⟨h, M.no f (by simp), M.no g (by simp), k, ok, ne⟩
theorem kin_ok {σ : L2.St} {H : Hp} {Q : VK} {e : Addr} {i j : Nat} {l : List (Str × V)} {a b : Str} (lt : i < 33) (ks : kinds i = [a, b]) (ok : ([a, b].all fun x => PyData.strOk x) = true) (v : σ[j]? = some (some (.ref e))) (ee : ErrF H e (ca K i) l) (h : ∀ H', Same H H' → Q (.bl true) H') : tKin K a b j σ H Q := by
  refine ⟨_, v, e, i, l, rfl, lt, ee, fun H1 qk s1 hk => ⟨(by decide : (2 : Nat) ≤ sizeLine), fun L nL _ => ?_⟩⟩
  rw [ks] at hk
  have s2 := same_new (o := .lst [.str a, .str b]) nL
  have sh := shaped_str ok
  refine .inr ⟨_, _, .lst (SqL.of (s2 _ _ hk)) (dpA_str [a, b]), .lst (SqL.of upd_same) (dpA_str [a, b]), sh, sh, ?_⟩
  rw [same_data sh]
  exact h _ (s1.trans s2)
theorem rep_ok {σ : L2.St} {H0 H : Hp} {Q : VK} {e p : Addr} {i j : Nat} {f g a b : Str} {t m : V} {o : HO} (T : Top K mg) (F : Fld2 K f g a b i) (v : σ[j]? = some (some (.ref e))) (v0 : σ[0]? = some (some t)) (v1 : σ[1]? = some (some m)) (ee : ErrF H e (ca K i) [(f, t), (g, m)])
    (s : Same H0 H) (hp : H0 p = some o) (gt : Good K p H0 t) (gm : Good K p H0 m) (h : ∀ H', Same H H' → Q (.bl true) H') : tRep K f g j σ H Q := by
  obtain ⟨d1, r1, a1, b1, c1⟩ := gt
  obtain ⟨d2, r2, a2, b2, c2⟩ := gm
  obtain ⟨g1, g2, g3⟩ := good_pair a1 a2 b1 b2 c1 c2
  have xf := (T.ex i F.lt).2
  refine ⟨_, v, e, ca K i, _, t, rfl, ee, xf, F.no1, by simp [List.lookup], _, v, e, ca K i, _, m, rfl, ee, xf, F.no2, ?_, (by decide : (2 : Nat) ≤ sizeLine), fun L nL mL => ?_⟩
  · have n1 : (g == f) = false := by
      cases z : g == f
      · rfl
      · exact absurd (LawfulBEq.eq_of_beq z).symm F.ne
    simp [List.lookup, n1]
  · have sL := same_new (o := .lst [t, m]) nL
    have hpL : H0 p = some o → L ≠ p := fun _ z => by
      have := s _ _ hp
      rw [← z, nL] at this
      cases this
    refine ⟨p, _, .list [d1, d2], rfl, rds_lst upd_same mL (hpL hp) (.cons ((r1.same s).same sL) (.cons ((r2.same s).same sL) .nil)), g1, g2, g3, _, v0, _, v1, (by decide : (2 : Nat) ≤ sizeLine), fun M nM mM => ?_⟩
    have sM := same_new (o := .lst [t, m]) nM
    have hpM : M ≠ p := fun z => by
      have := (s.trans sL) _ _ hp
      rw [← z, nM] at this
      cases this
    refine ⟨p, _, .list [d1, d2], rfl, rds_lst upd_same mM hpM (.cons (((r1.same s).same sL).same sM) (.cons (((r2.same s).same sL).same sM) .nil)), g1, g2, g3, .inl ⟨rfl, ?_⟩⟩
    rw [decide_eq_true rfl]
    exact h _ (sL.trans sM)
theorem both_ok {σ : L2.St} {H0 H : Hp} {e p q : Addr} {i j n : Nat} {f g a b : Str} {t m : V} {o : HO} {D : Ends} (T : Top K mg) (F : Fld2 K f g a b i) (v : σ[j]? = some (some (.ref e))) (sv : Sv5 t m q σ) (ee : ErrF H e (ca K i) [(f, t), (g, m)]) (A : Told H0 q n H) (few : n ≤ 80)
    (hp : H0 p = some o) (gt : Good K p H0 t) (gm : Good K p H0 m) (h : ∀ H', Told H0 q (n + 2) H' → Same (wo q H) (wo q H') → D.nx σ H') : tBoth K f g a b j D σ H := by
  obtain ⟨l5, v0, v1, v2⟩ := sv
  refine ⟨_, v2, .inl ⟨rfl, _, SqL.of A.2.2⟩, kin_ok F.lt F.ks F.ok v ee fun H1 s1 => ?_⟩
  have A1 := A.same s1
  refine ⟨q, _, _, rfl, rfl, A1.2.2, by rw [List.length_replicate, sizeLine_eq]; omega, ?_⟩
  have ee1 : ErrF (upd H1 q (.lst (List.replicate n (.bl true) ++ [.bl true]))) e (ca K i) [(f, t), (g, m)] := by
    have z := errF_wo (ee.same s1) A1.2.2
    rw [← wo_upd (o := .lst (List.replicate n (.bl true) ++ [.bl true]))] at z
    exact z.same wo_same
  have w1 : wo q (upd H1 q (.lst (List.replicate n (.bl true) ++ [.bl true]))) = wo q H1 := wo_upd
  have A2 := A1.more
  generalize upd H1 q (.lst (List.replicate n (.bl true) ++ [.bl true])) = H2 at ee1 w1 A2 ⊢
  refine ⟨_, v2, .inl ⟨rfl, _, SqL.of A2.2.2⟩, rep_ok T F v v0 v1 ee1 A2.1 hp gt gm fun H3 s3 => ?_⟩
  have A3 := A2.same s3
  refine ⟨q, _, _, rfl, rfl, A3.2.2, by rw [List.length_replicate, sizeLine_eq]; omega, h _ A3.more ?_⟩
  rw [wo_upd]
  have z := Same.wo (q := q) s1
  rw [← w1] at z
  exact z.trans (Same.wo s3)
theorem loop2_ok {f g a b : Str} {t m : V} {i j n : Nat} {σ : L2.St} {H0 H : Hp} {D : Ends} {p q : Addr} {o : HO} (T : Top K mg) (F : Fld2 K f g a b i) (j2 : 2 < j) (j5 : j < 5) (sv : Sv5 t m q σ) (A : Told H0 q n H) (few : n ≤ 40) (hp : H0 p = some o) (gt : Good K p H0 t) (gm : Good K p H0 m)
    (h : ∀ σ' H', Sv5 t m q σ' → Told H0 q (n + 4) H' → D.nx σ' H') : tLoop2 K i f g a b j D σ H := by
  refine ⟨_, sv.2.1, _, sv.2.2.1, fun e1 H1 n1 s1 x1 => ⟨_, sv.2.2.1, _, sv.2.1, fun e2 H2 n2 s2 x2 => ⟨(by decide : (2 : Nat) ≤ sizeLine), fun L nL _ => ?_⟩⟩⟩
  have s3 := same_new (o := .lst [.ref e1, .ref e2]) nL
  have A3 := A.same ((s1.trans s2).trans s3)
  have x1' := (x1.same s2).same s3
  have x2' := x2.same s3
  have hL : upd H2 L (.lst [.ref e1, .ref e2]) L = some (.lst [.ref e1, .ref e2]) := upd_same
  have nq : L ≠ q := fun z => by
    have hw := (A.same (s1.trans s2)).2.2
    rw [z, hw] at nL
    cases nL
  generalize upd H2 L (.lst [.ref e1, .ref e2]) = H3 at A3 x1' x2' hL ⊢
  refine ⟨L, rfl, ⟨_, SqL.of hL⟩, ?_⟩
  refine for_list (xs := [.ref e1, .ref e2]) (fun k σ H => k ≤ 2 ∧ Sv5 t m q σ ∧ Told H0 q (n + 2 * k) H ∧ Same (wo q H3) H) ⟨Nat.zero_le _, sv, A3, wo_same⟩ (fun k σ H _ p => SqL.of (p.2.2.2 _ _ (by rw [wo_ne nq]; exact hL))) (fun k x σ H hx p => ?_) (fun σ H p => h σ H p.2.1 p.2.2.1)
  obtain ⟨lm, sv, A, sm⟩ := p
  have hw3 := A3.2.2
  have xe : ∃ e, x = .ref e ∧ ErrF H e (ca K i) [(f, t), (g, m)] := by
    match k, hx with
    | 0, hx =>
      cases hx
      exact ⟨e1, rfl, (errF_wo x1' hw3).same sm⟩
    | 1, hx =>
      cases hx
      exact ⟨e2, rfl, (errF_wo x2' hw3).same sm⟩
  have lm1 : k < 2 := by
    rcases Nat.lt_or_ge k 2 with z | z
    · exact z
    · rw [List.getElem?_eq_none z] at hx
      cases hx
  obtain ⟨e, rfl, ee⟩ := xe
  obtain ⟨l5, l0, l1, l2⟩ := sv
  have sv' : Sv5 t m q (σ.set j (some (.ref e))) := ⟨by rw [List.length_set]; exact l5, by rw [List.getElem?_set_ne (by omega)]; exact l0, by rw [List.getElem?_set_ne (by omega)]; exact l1, by rw [List.getElem?_set_ne (by omega)]; exact l2⟩
  refine both_ok T F (List.getElem?_set_self (by rw [l5]; exact j5)) sv' ee A (by omega) hp gt gm fun H' A' s' => ⟨lm1, sv', A', ?_⟩
  intro b o z
  have nb : b ≠ q := fun y => by
    rw [y] at z
    unfold wo at z
    rw [if_pos rfl] at z
    cases z
  exact wo_same _ _ (s' _ _ (by rw [wo_ne nb]; exact sm _ _ z))
theorem loop2S {f g a b : Str} {t m : V} {i j n : Nat} {σ : L2.St} {H0 H : Hp} {D : Ends} {p q : Addr} {o : HO} {rest : TS} (T : Top K mg) (F : Fld2 K f g a b i) (j2 : 2 < j) (j5 : j < 5) (sv : Sv5 t m q σ) (A : Told H0 q n H) (few : n ≤ 40) (hp : H0 p = some o) (gt : Good K p H0 t) (gm : Good K p H0 m)
    (h : ∀ σ' H', Sv5 t m q σ' → Told H0 q (n + 4) H' → rest D σ' H') : tSeq (tLoop2 K i f g a b j) rest D σ H := seq_of (loop2_ok T F j2 j5 sv A few hp gt gm h)
theorem ok_law_pairs_right (T : Top K mg) (D_BadText : Err2 P w K mg base "BadText" "line" "word" (ca K 23)) (D_TooMany : Err2 P w K mg base "TooMany" "what" "most" (ca K 25)) (D_law_kinds : Def P w K mg base "_law_kinds" 2 ["_law_error"] (spKinds K)) (F : Fn K "_law_pairs_right" s_law_pairs_right fd) : FnG P w K mg base CX0 3 (He.ga K "_law_pairs_right") fd ["_law_thing", "_law_more"] (spPairs K) := by
  refine okG F sc_law_pairs_right (fun vs H Q E h => ?_) (fun cdv A outer s H vs Q E hgu hr h => ?_)
  · obtain ⟨p, t, m, o, rfl, _⟩ := h
    rfl
  · obtain ⟨p, t, m, o, rfl, hp, gt, gm, k⟩ := h
    have hu := hr.units
    refine ⟨_, PSs.nox (pss_cons (ps_set (i := 2) sc_law_pairs_right.nd rfl (Or.inl rfl) (pe_lstN pa_nil))
      (pss_cons (ps_for PassesOwn.never rfl (pi_list (pe_lstN (pa_cons (pe_err2 D_BadText (hr.mono (by decide)) rfl (pv 0) (pv 1)) (pa_cons (pe_err2K D_BadText (hr.mono (by decide)) rfl (pv 1) (pv 0)) pa_nil)))) (pg_name (i := 3) sc_law_pairs_right.nd rfl (Or.inl rfl)) (pss_cons (ps_expr (pe_bm PySem.F.plainAttrs_list PySem.F.slot_list_append PySem.F.type_list_append mt_append (pv 2) (pa_cons (pe_cmpR (op_same hu) (pe_callD D_law_kinds (hr.mono (by decide)) rfl (pa_cons (pv 3) pa_nil)) (pe_lstN (pa_cons pe_str (pa_cons pe_str pa_nil))) (nomark _)) pa_nil)))
      (pss_one (ps_expr (pe_bm PySem.F.plainAttrs_list PySem.F.slot_list_append PySem.F.type_list_append mt_append (pv 2) (pa_cons (pe_cmpR (op_same hu) (pe_callB (call_repr hgu hu) rfl T.n_repr (by decide +kernel) (pa_cons (pe_lstN (pa_cons (pe_errF (pv 3)) (pa_cons (pe_errF (pv 3)) pa_nil))) pa_nil)) (pe_callB (call_repr hgu hu) rfl T.n_repr (by decide +kernel) (pa_cons (pe_lstN (pa_cons (pv 0) (pa_cons (pv 1) pa_nil))) pa_nil)) (nomark _)) pa_nil))))))
      (pss_cons (ps_for PassesOwn.never rfl (pi_list (pe_lstN (pa_cons (pe_err2 D_TooMany (hr.mono (by decide)) rfl (pv 0) (pv 1)) (pa_cons (pe_err2K D_TooMany (hr.mono (by decide)) rfl (pv 1) (pv 0)) pa_nil)))) (pg_name (i := 4) sc_law_pairs_right.nd rfl (Or.inl rfl)) (pss_cons (ps_expr (pe_bm PySem.F.plainAttrs_list PySem.F.slot_list_append PySem.F.type_list_append mt_append (pv 2) (pa_cons (pe_cmpR (op_same hu) (pe_callD D_law_kinds (hr.mono (by decide)) rfl (pa_cons (pv 4) pa_nil)) (pe_lstN (pa_cons pe_str (pa_cons pe_str pa_nil))) (nomark _)) pa_nil)))
      (pss_one (ps_expr (pe_bm PySem.F.plainAttrs_list PySem.F.slot_list_append PySem.F.type_list_append mt_append (pv 2) (pa_cons (pe_cmpR (op_same hu) (pe_callB (call_repr hgu hu) rfl T.n_repr (by decide +kernel) (pa_cons (pe_lstN (pa_cons (pe_errF (pv 4)) (pa_cons (pe_errF (pv 4)) pa_nil))) pa_nil)) (pe_callB (call_repr hgu hu) rfl T.n_repr (by decide +kernel) (pa_cons (pe_lstN (pa_cons (pv 0) (pa_cons (pv 1) pa_nil))) pa_nil)) (nomark _)) pa_nil))))))
      (pss_one (ps_ret (pe_cmpR op_notIn_seq pe_bl (pv 2) rfl)))))), ?_⟩
    refine set_new fun q nq => ?_
    have A0 : Told H q 0 (upd H q (.lst [])) := ⟨same_new nq, nq, upd_same⟩
    refine to_state (σ' := [some t, some m, some (.ref q), none, none]) rfl ?_
    have sv : Sv5 t m q [some t, some m, some (.ref q), none, none] := ⟨rfl, rfl, rfl, rfl⟩
    refine loop2S (i := 23) (f := "line") (g := "word") (a := "input") (b := "text") (j := 3) T (fld2 D_BadText (by decide) (by decide +kernel) (by decide +kernel) (by decide)) (by decide) (by decide) sv A0 (by decide) hp gt gm fun σ1 H1 sv1 A1 => ?_
    refine loop2S (i := 25) (f := "what") (g := "most") (a := "refused") (b := "too many") (j := 4) T (fld2 D_TooMany (by decide) (by decide +kernel) (by decide +kernel) (by decide)) (by decide) (by decide) sv1 A1 (by decide) hp gt gm fun σ2 H2 sv2 A2 => ?_
    refine ⟨_, sv2.2.2.2, q, _, rfl, .inl (SqL.of A2.2.2), rfl, by decide, ?_⟩
    exact k _ A2.1
end
end L2.K00
set_option Elab.async false
set_option linter.all false
set_option maxRecDepth 100000
set_option maxHeartbeats 4000000
/-! The law. -/
namespace L2.K00
open PySem PySem.Spec PyProof.Rows L2.RV
def spLaw (K : PySem.W.Frag) : Sp := fun vs H Q _ => ∃ (a : Addr) (ns : List Int), vs = [.ref a] ∧ SqL K H a (ns.map V.int) ∧ ns.length ≤ 63 ∧ ∀ H', Q (.bl true) H'
/-- the state of the turns -/
def Sw (p : Addr) (t m : V) (σ : L2.St) : Prop := σ.length = 9 ∧ σ[1]? = some (some (.ref p)) ∧ σ[4]? = some (some t) ∧ σ[5]? = some (some m)
theorem Sw.put {p : Addr} {t m u : V} {σ : L2.St} (s : Sw p t m σ) {j : Nat} (h : 5 < j) : Sw p t m (σ.set j (some u)) := by
  obtain ⟨a, b, c, d⟩ := s
  exact ⟨by rw [List.length_set]; exact a, by rw [List.getElem?_set_ne (by omega)]; exact b, by rw [List.getElem?_set_ne (by omega)]; exact c, by rw [List.getElem?_set_ne (by omega)]; exact d⟩
def tC1 (K : PySem.W.Frag) : TT := tTest (tOp (rDiff K) (tCB (rRepr K) (tCons (tVar 8) tNil)) (tCB (rRepr K) (tCons (tVar 4) tNil)))
def tC2 (K : PySem.W.Frag) : TT := tTest (tOp (rDiff K) (tCall (spKinds K) [] E0 (tCons (tVar 6) tNil)) (tVar 7))
def tInner (K : PySem.W.Frag) : TS := tFor (iList K (tOp rPlus (tCall (spMade K) [] E0 (tCons (tVar 4) tNil)) (tCall (spMade K) [] E0 (tCons (tVar 4) tNil)))) (gTup K 3 (gCons (gName 6) (gCons (gName 7) (gCons (gName 8) gNil)))) (tIfS (tOr (tC1 K) (tC2 K)) (tRet (tC (.bl false))) tNext)
def tTurn (K : PySem.W.Frag) : TS := tSeq (tPar 4 5 (tCons (tCall (spValue K) [] E0 (tCons (tVar 1) tNil)) (tCons (tCall (spValue K) [] E0 (tCons (tVar 1) tNil)) tNil)))
  (tSeq (tInner K) (tIfS (tNot (tB (tCall (spPairs K) [] E0 (tCons (tVar 4) (tCons (tVar 5) tNil))))) (tRet (tC (.bl false))) tNext))
def tErr0 (K : PySem.W.Frag) (i : Nat) : TE := fun _ H Q => ∀ (a : Addr) (H2 : Hp), H a = none → Same H H2 → ErrF H2 a (ca K i) [] → Q (.ref a) H2
def tK0 (K : PySem.W.Frag) (i : Nat) : TE := tCall (spKinds K) [] E0 (tCons (tErr0 K i) tNil)
def tC3 (K : PySem.W.Frag) (i : Nat) (a b : Str) : TT := tTest (tOp (rDiff K) (tK0 K i) (tLstN (tCons (tC (.str a)) (tCons (tC (.str b)) tNil))))
theorem kinds_ok : ∀ i, i < 33 → ((kinds i).all fun x => PyData.strOk x) = true := by decide +kernel
section
variable {P : Program} {w : World} {K : PySem.W.Frag} {mg : Str → Option Value} {base : Heap} {fd : FuncData}
theorem k0_ok {σ : L2.St} {H : Hp} {Q : VK} {i : Nat} (lt : i < 33) (h : ∀ H' q, Same H H' → H' q = some (.lst ((kinds i).map V.str)) → Q (.ref q) H') : tK0 K i σ H Q :=
  fun a H2 n s1 ee => ⟨a, i, [], rfl, lt, ee, fun H' q s2 hq => h H' q (s1.trans s2) hq⟩
theorem c3_ok {σ : L2.St} {H : Hp} {Q : Bool → Hp → Prop} {i : Nat} {a b : Str} (lt : i < 33) (ks : kinds i = [a, b]) (h : ∀ H', Same H H' → Q false H') : tC3 K i a b σ H Q := by
  refine k0_ok lt fun H1 q s1 hq => ⟨(by decide : (2 : Nat) ≤ sizeLine), fun L nL _ => ?_⟩
  have ok := kinds_ok i lt
  rw [ks] at hq ok
  have s2 := same_new (o := .lst [.str a, .str b]) nL
  have sh := shaped_str ok
  refine .inr ⟨_, _, .lst (SqL.of (s2 _ _ hq)) (dpA_str [a, b]), .lst (SqL.of upd_same) (dpA_str [a, b]), sh, sh, _, rfl, ?_⟩
  rw [same_data sh]
  exact h _ (s1.trans s2)
theorem groups_ok {σ : L2.St} {H : Hp} {Q : VK} (h : ∀ H' q a0 a1 a2 a3, H' q = some (.lst [.ref a0, .ref a1, .ref a2, .ref a3]) → H' a0 = some (.lst ((kinds 0).map V.str)) → H' a1 = some (.lst ((kinds 1).map V.str)) → H' a2 = some (.lst ((kinds 2).map V.str)) → H' a3 = some (.lst ((kinds 3).map V.str)) → Q (.ref q) H') :
    tLstN (tCons (tK0 K 0) (tCons (tK0 K 1) (tCons (tK0 K 2) (tCons (tK0 K 3) tNil)))) σ H Q := by
  show tK0 K 0 σ H (fun v0 H1 => tK0 K 1 σ H1 fun v1 H2 => tK0 K 2 σ H2 fun v2 H3 => tK0 K 3 σ H3 fun v3 H4 => ([v0, v1, v2, v3] : List V).length ≤ sizeLine ∧ ∀ p, H4 p = none → p ≠ sysModules → Q (.ref p) (upd H4 p (.lst [v0, v1, v2, v3])))
  refine k0_ok (by decide) fun H1 a0 s1 h0 => k0_ok (by decide) fun H2 a1 s2 h1 => k0_ok (by decide) fun H3 a2 s3 h2 => k0_ok (by decide) fun H4 a3 s4 h3 => ⟨(by decide : (4 : Nat) ≤ sizeLine), fun q n _ => ?_⟩
  have s5 := same_new (o := .lst [.ref a0, .ref a1, .ref a2, .ref a3]) n
  exact h _ q a0 a1 a2 a3 upd_same ((((s2.trans s3).trans s4).trans s5) _ _ h0) (((s3.trans s4).trans s5) _ _ h1) ((s4.trans s5) _ _ h2) (s5 _ _ h3)
theorem lists_ok {σ : L2.St} {H : Hp} {Q : VK} (h : ∀ H' q b0 b1 b2 b3, Same H H' → H' q = some (.lst [.ref b0, .ref b1, .ref b2, .ref b3]) → H' b0 = some (.lst []) → H' b1 = some (.lst [.str "input"]) → H' b2 = some (.lst [.str "refused"]) → H' b3 = some (.lst [.str "answer"]) → Q (.ref q) H') :
    tLstN (tCons (tLstN tNil) (tCons (tLstN (tCons (tC (.str "input")) tNil)) (tCons (tLstN (tCons (tC (.str "refused")) tNil)) (tCons (tLstN (tCons (tC (.str "answer")) tNil)) tNil)))) σ H Q := by
  refine ⟨(by decide : (0 : Nat) ≤ sizeLine), fun b0 n0 _ => ⟨(by decide : (1 : Nat) ≤ sizeLine), fun b1 n1 _ => ⟨(by decide : (1 : Nat) ≤ sizeLine), fun b2 n2 _ => ⟨(by decide : (1 : Nat) ≤ sizeLine), fun b3 n3 _ => ⟨(by decide : (4 : Nat) ≤ sizeLine), fun q n _ => ?_⟩⟩⟩⟩⟩
  have s0 := same_new (o := .lst []) n0
  have s1 := same_new (o := .lst [.str "input"]) n1
  have s2 := same_new (o := .lst [.str "refused"]) n2
  have s3 := same_new (o := .lst [.str "answer"]) n3
  have s4 := same_new (o := .lst [.ref b0, .ref b1, .ref b2, .ref b3]) n
  exact h _ q b0 b1 b2 b3 ((((s0.trans s1).trans s2).trans s3).trans s4) upd_same ((((s1.trans s2).trans s3).trans s4) _ _ upd_same) (((s2.trans s3).trans s4) _ _ upd_same) ((s3.trans s4) _ _ upd_same) (s4 _ _ upd_same)
theorem k0s : kinds 0 = ([] : List Str) ∧ kinds 1 = (["input"] : List Str) ∧ kinds 2 = (["refused"] : List Str) ∧ kinds 3 = (["answer"] : List Str) := by decide +kernel
theorem inner_ok {σ : L2.St} {H : Hp} {D : Ends} {rest : TS} {p : Addr} {t m : V} {d : PyData} (T : Top K mg) (sw : Sw p t m σ) (rd : Rds K p H t d) (sh : d.showable = true) (dp : d.depth ≤ 50) (ln : d.shown.length ≤ 1000) (h : ∀ σ' H', Sw p t m σ' → Same H H' → rest D σ' H') : tSeq (tInner K) rest D σ H := by
  refine ⟨_, sw.2.2.1, t, rfl, fun H1 q1 vs1 s1 h1 l1 t1 => ⟨_, sw.2.2.1, t, rfl, fun H2 q2 vs2 s2 h2 l2 t2 => ?_⟩⟩
  refine .inr (.inl ⟨q1, q2, vs1, vs2, rfl, rfl, s2 _ _ h1, h2, by rw [sizeLine_eq]; omega, fun q nq => ?_⟩)
  have s3 := same_new (o := .lst (vs1 ++ vs2)) nq
  have tri : ∀ v ∈ vs1 ++ vs2, Tri K t (upd H2 q (.lst (vs1 ++ vs2))) v := fun v mm => by
    rcases List.mem_append.mp mm with z | z
    · exact ((t1 v z).same s2).same s3
    · exact (t2 v z).same s3
  have hq : upd H2 q (.lst (vs1 ++ vs2)) q = some (.lst (vs1 ++ vs2)) := upd_same
  have s4 := (s1.trans s2).trans s3
  generalize upd H2 q (.lst (vs1 ++ vs2)) = H3 at tri hq s4 ⊢
  generalize vs1 ++ vs2 = xs at tri hq ⊢
  refine ⟨q, rfl, ⟨_, SqL.of hq⟩, ?_⟩
  refine for_list (xs := xs) (fun _ σ H => Sw p t m σ ∧ Same H3 H) ⟨sw, fun _ _ z => z⟩ (fun _ σ H _ y => SqL.of (y.2 _ _ hq)) (fun k x σ H' hx y => ?_) (fun σ H' y => h σ H' y.1 (s4.trans y.2))
  obtain ⟨sw, s5⟩ := y
  obtain ⟨a, e, l2, i, l, rfl, ha, hl, lt, ee⟩ := (tri x (List.mem_of_getElem? hx)).same s5
  refine ⟨a, _, rfl, SqT.of ha, rfl, _, _, rfl, _, _, rfl, _, _, rfl, rfl, ?_⟩
  have n9 := sw.1
  have sw' := ((sw.put (u := .ref e) (j := 6) (by decide)).put (u := .ref l2) (j := 7) (by decide)).put (u := t) (j := 8) (by decide)
  have g8 : (((σ.set 6 (some (.ref e))).set 7 (some (.ref l2))).set 8 (some t))[8]? = some (some t) := List.getElem?_set_self (by rw [List.length_set, List.length_set]; omega)
  have g7 : (((σ.set 6 (some (.ref e))).set 7 (some (.ref l2))).set 8 (some t))[7]? = some (some (.ref l2)) := by
    rw [List.getElem?_set_ne (by decide)]
    exact List.getElem?_set_self (by rw [List.length_set]; omega)
  have g6 : (((σ.set 6 (some (.ref e))).set 7 (some (.ref l2))).set 8 (some t))[6]? = some (some (.ref e)) := by
    rw [List.getElem?_set_ne (by decide), List.getElem?_set_ne (by decide)]
    exact List.getElem?_set_self (by omega)
  generalize ((σ.set 6 (some (.ref e))).set 7 (some (.ref l2))).set 8 (some t) = σ3 at sw' g8 g7 g6 ⊢
  have rd' := (rd.same s4).same s5
  have dp' : d.depth ≤ 60 := by omega
  have ln' : d.shown.length ≤ sizeLine := by rw [sizeLine_eq]; omega
  refine ⟨_, g8, p, t, d, rfl, rd', sh, dp', ln', _, sw'.2.2.1, p, t, d, rfl, rd', sh, dp', ln', .inl ⟨rfl, _, rfl, ?_⟩⟩
  rw [decide_eq_true rfl]
  refine ⟨_, g6, e, i, l, rfl, lt, ee, fun H4 qk s6 hk => ⟨_, g7, ?_⟩⟩
  have shk := shaped_str (kinds_ok i lt)
  refine .inr ⟨_, _, .lst (SqL.of hk) (dpA_str _), .lst (SqL.of (s6 _ _ hl)) (dpA_str _), shk, shk, _, rfl, ?_⟩
  rw [same_data shk]
  exact ⟨sw', s5.trans s6⟩
theorem turn_ok {σ : L2.St} {H : Hp} {D : Ends} {p l : Addr} {ns : List Int} {a r : Int} (T : Top K mg) (n9 : σ.length = 9) (v1 : σ[1]? = some (some (.ref p))) (pa : PenAt H p l ns a r) (ha : a ≤ 80000) (h : ∀ σ' H' a' r', σ'.length = 9 → σ'[1]? = some (some (.ref p)) → PenAt H' p l ns a' r' → a' ≤ a + 4 → D.nx σ' H') : tTurn K D σ H := by
  refine ⟨_, v1, p, l, ns, a, r, rfl, pa, by omega, fun H1 a1 r1 t d k1 pa1 la1 rd1 sh1 dp1 ln1 => ?_⟩
  refine ⟨_, v1, p, l, ns, a1, r1, rfl, pa1, by omega, fun H2 a2 r2 m d2 k2 pa2 la2 rd2 sh2 dp2 ln2 => ⟨_, _, rfl, ?_⟩⟩
  have sw : Sw p t m ((σ.set 4 (some t)).set 5 (some m)) := by
    refine ⟨by rw [List.length_set, List.length_set]; exact n9, ?_, ?_, ?_⟩
    · rw [List.getElem?_set_ne (by decide), List.getElem?_set_ne (by decide)]
      exact v1
    · rw [List.getElem?_set_ne (by decide)]
      exact List.getElem?_set_self (by omega)
    · exact List.getElem?_set_self (by rw [List.length_set]; omega)
  have rd1' := rd1.keep k2
  refine inner_ok T sw rd1' sh1 dp1 ln1 fun σ' H3 sw3 s3 => ?_
  refine ⟨_, sw3.2.2.1, _, sw3.2.2.2, p, t, m, _, rfl, (pa2.same s3).pen, ⟨d, rd1'.same s3, sh1, dp1, ln1⟩, ⟨d2, rd2.same s3, sh2, dp2, ln2⟩, fun H4 s4 => ⟨_, rfl, ?_⟩⟩
  exact h σ' H4 a2 r2 sw3.1 sw3.2.1 ((pa2.same s3).same s4) (by omega)
theorem if_c3 {i j : Nat} {a b c d : Str} {σ : L2.St} {H : Hp} {D : Ends} {rest : TS} (li : i < 33) (lj : j < 33) (ki : kinds i = [a, b]) (kj : kinds j = [c, d]) (h : ∀ H', rest D σ H') : tSeq (tIfS (tOr (tC3 K i a b) (tC3 K j c d)) (tRet (tC (.bl false))) tNext) rest D σ H := by
  show tC3 K i a b σ H _
  refine c3_ok li ki fun H1 _ => ?_
  show tC3 K j c d σ H1 _
  exact c3_ok lj kj fun H2 _ => h H2
theorem ok_law (T : Top K mg) (D_law_pen : Def P w K mg base "_law_pen" 1 ["_law_script"] (spPen K)) (D_law_value : Def P w K mg base "_law_value" 3 ["_law_pen_here"] (spValue K)) (D_law_kinds : Def P w K mg base "_law_kinds" 2 ["_law_error"] (spKinds K))
    (D_law_parted : Def P w K mg base "_law_parted" 3 ["_law_thing"] (spMade K)) (D_law_valued : Def P w K mg base "_law_valued" 3 ["_law_thing"] (spMade K)) (D_law_pairs_right : DefG P w K mg base "_law_pairs_right" 3 ["_law_thing", "_law_more"] (spPairs K)) (F : Fn K "law" s_law fd) : FnG P w K mg base CX0 4 (He.ga K "law") fd ["_law_script"] (spLaw K) := by
  refine okG F sc_law (fun vs H Q E h => ?_) (fun cdv A outer s H vs Q E hgu hr h => ?_)
  · obtain ⟨a, ns, rfl, _⟩ := h
    rfl
  · obtain ⟨a, ns, rfl, ha, few, k⟩ := h
    have hu := hr.units
    refine ⟨_, PSs.nox (pss_cons (ps_set (i := 1) sc_law.nd rfl (Or.inl rfl) (pe_callD D_law_pen (hr.mono (by decide)) rfl (pa_cons (pv 0) pa_nil)))
      (pss_cons (ps_for PassesOwn.never rfl (pi_range1 rfl T.n_range (pa_cons pe_int pa_nil)) (pg_name (i := 2) sc_law.nd rfl (Or.inl rfl)) (pss_cons (ps_par (i := 4) (j := 5) (by rfl) sc_law.nd rfl rfl (by decide) rfl rfl (pa_cons (pe_callD D_law_value (hr.mono (by decide)) rfl (pa_cons (pv 1) pa_nil)) (pa_cons (pe_callD D_law_value (hr.mono (by decide)) rfl (pa_cons (pv 1) pa_nil)) pa_nil)) (by rfl))
      (pss_cons (ps_for PassesOwn.never rfl (pi_list (pe_op op_plus (pe_callD D_law_parted (hr.mono (by decide)) rfl (pa_cons (pv 4) pa_nil)) (pe_callD D_law_valued (hr.mono (by decide)) rfl (pa_cons (pv 4) pa_nil)))) (pg_tup rfl (pgs_cons (pg_name (i := 6) sc_law.nd rfl (Or.inl rfl)) (pgs_cons (pg_name (i := 7) sc_law.nd rfl (Or.inl rfl)) (pgs_cons (pg_name (i := 8) sc_law.nd rfl (Or.inl rfl)) pgs_nil)))) (pss_one (ps_if (PW.pt (pw_or (pt_cmpR (op_diff hu) (pe_callB (call_repr hgu hu) rfl T.n_repr (by decide +kernel) (pa_cons (pv 8) pa_nil)) (pe_callB (call_repr hgu hu) rfl T.n_repr (by decide +kernel) (pa_cons (pv 4) pa_nil)) (nomark _)) (pw_or1 (pt_cmpR (op_diff hu) (pe_callD D_law_kinds (hr.mono (by decide)) rfl (pa_cons (pv 6) pa_nil)) (pv 7) (nomark _))))) (pss_one (ps_ret pe_bl)) pss_nil)))
      (pss_one (ps_if (pt_not (pt_val (pe_callDG D_law_pairs_right hgu (hr.mono (by decide)) rfl (pa_cons (pv 4) (pa_cons (pv 5) pa_nil))))) (pss_one (ps_ret pe_bl)) pss_nil)))))
      (pss_cons (ps_if (PW.pt (pw_or (pt_cmpR (op_diff hu) (pe_callD D_law_kinds (hr.mono (by decide)) rfl (pa_cons (pe_err0 PySem.F.excBase_ValueError T.x_Torn T.o_Torn T.c_Torn rfl) pa_nil)) (pe_lstN (pa_cons pe_str (pa_cons pe_str pa_nil))) (nomark _)) (pw_or1 (pt_cmpR (op_diff hu) (pe_callD D_law_kinds (hr.mono (by decide)) rfl (pa_cons (pe_err0 PySem.F.excBase_ValueError T.x_NoDeed T.o_NoDeed T.c_NoDeed rfl) pa_nil)) (pe_lstN (pa_cons pe_str (pa_cons pe_str pa_nil))) (nomark _))))) (pss_one (ps_ret pe_bl)) pss_nil)
      (pss_cons (ps_set (i := 3) sc_law.nd rfl (Or.inl rfl) (pe_lstN (pa_cons (pe_callD D_law_kinds (hr.mono (by decide)) rfl (pa_cons (pe_err0 PySem.F.excBase_ValueError T.x_VaultError T.o_VaultError T.c_VaultError rfl) pa_nil)) (pa_cons (pe_callD D_law_kinds (hr.mono (by decide)) rfl (pa_cons (pe_err0 PySem.F.excBase_ValueError T.x_BadInput T.o_BadInput T.c_BadInput rfl) pa_nil)) (pa_cons (pe_callD D_law_kinds (hr.mono (by decide)) rfl (pa_cons (pe_err0 PySem.F.excBase_ValueError T.x_Refused T.o_Refused T.c_Refused rfl) pa_nil)) (pa_cons (pe_callD D_law_kinds (hr.mono (by decide)) rfl (pa_cons (pe_err0 PySem.F.excBase_ValueError T.x_NoAnswer T.o_NoAnswer T.c_NoAnswer rfl) pa_nil)) pa_nil))))))
      (pss_one (ps_ret (pe_and (pe_cmpR (op_same hu) (pv 3) (pe_lstN (pa_cons (pe_lstN pa_nil) (pa_cons (pe_lstN (pa_cons pe_str pa_nil)) (pa_cons (pe_lstN (pa_cons pe_str pa_nil)) (pa_cons (pe_lstN (pa_cons pe_str pa_nil)) pa_nil))))) (nomark _)) (pe_one (pe_callB L2.RV.call_isE rfl T.n_isinstance (by decide +kernel) (pa_cons (pe_err0 PySem.F.excBase_ValueError T.x_VaultError T.o_VaultError T.c_VaultError rfl) (pa_cons (pe_bltn (v := .ty "ValueError") (u := .type "ValueError") rfl T.n_ValueError (by decide +kernel) rfl) pa_nil))))))))))), ?_⟩
    refine set_of ⟨_, rfl, a, ns, rfl, ha, few, fun H1 p l ns' s1 np pa => ?_⟩
    refine ⟨4, rfl, by decide, by decide, ?_⟩
    refine for_range (fun i σ H => σ.length = 9 ∧ σ[1]? = some (some (.ref p)) ∧ ∃ a r, PenAt H p l ns' a r ∧ a ≤ 4 * i) ⟨rfl, rfl, 0, 0, pa, by omega⟩ (fun i σ H' hi y => ?_) (fun σ H' y => ?_)
    · obtain ⟨n9, v1, a', r', pa', la⟩ := y
      refine turn_ok T (σ := σ.set 2 _) (by rw [List.length_set]; exact n9) (by rw [List.getElem?_set_ne (by decide)]; exact v1) pa' (by omega) fun σ2 H2 a2 r2 n2 v2 p2 l2 => ⟨n2, v2, a2, r2, p2, by omega⟩
    · obtain ⟨n9, v1, _⟩ := y
      refine if_c3 (i := 28) (j := 32) (a := "refused") (b := "torn") (c := "answer") (d := "no deed") (by decide) (by decide) (by decide +kernel) (by decide +kernel) fun H2 => ?_
      refine set_of (groups_ok fun H3 q a0 a1 a2 a3 hq h0 h1 h2 h3 => ?_)
      obtain ⟨k0, k1, k2, k3⟩ := k0s
      rw [k0] at h0
      rw [k1] at h1
      rw [k2] at h2
      rw [k3] at h3
      refine ⟨_, List.getElem?_set_self (by omega), lists_ok fun H4 q' b0 b1 b2 b3 s4 hq' e0 e1 e2 e3 => ?_⟩
      have sh : SeqAt.shaped (.list [.list [], .list [.str "input"], .list [.str "refused"], .list [.str "answer"]]) = true := by decide +kernel
      refine .inr ⟨_, _, .lst (SqL.of (s4 _ _ hq)) (.cons (.lst (SqL.of (s4 _ _ h0)) .nil) (.cons (.lst (SqL.of (s4 _ _ h1)) (dpA_str ["input"])) (.cons (.lst (SqL.of (s4 _ _ h2)) (dpA_str ["refused"])) (.cons (.lst (SqL.of (s4 _ _ h3)) (dpA_str ["answer"])) .nil)))),
        .lst (SqL.of hq') (.cons (.lst (SqL.of e0) .nil) (.cons (.lst (SqL.of e1) (dpA_str ["input"])) (.cons (.lst (SqL.of e2) (dpA_str ["refused"])) (.cons (.lst (SqL.of e3) (dpA_str ["answer"])) .nil)))), sh, sh, _, rfl, ?_⟩
      have eq := same_data sh
      refine (if_pos eq).mpr ?_
      exact fun e H5 n s5 ee => ⟨e, ca K 0, [], .ty "ValueError", .type "ValueError", true, rfl, ee, (T.ex 0 (by decide)).1, fun u r => r, T.ve, k _⟩
end
end L2.K00
set_option Elab.async false
set_option linter.all false
set_option maxRecDepth 100000
set_option maxHeartbeats 4000000
/-! All defs together; the law holds. -/
namespace L2.K00
open PySem PySem.Spec PyProof.Rows L2.RV
section
variable {P : Program} {w : World} {K : PySem.W.Frag} {mg : Str → Option Value} {h base : Heap} {f : Addr}
theorem glo_fn (X : K.In h) (G : h.Ns mainGlobals mg) (c : SaysR chk fn K) {x : Str} (m : x ∈ fns) : mg x = some (.ref (He.ga K x)) :=
  gloB_ok X G (List.all_eq_true.mp (ba2 (ba2 (ba2 (ba2 (ba2 c.look).2).2).2).2).1 x m)
theorem def_law_pen (X : K.In h) (G : h.Ns mainGlobals mg) (c : SaysR chk fn K) : Def P w K mg base "_law_pen" 1 ["_law_script"] (spPen K) := by
  obtain ⟨fd, F⟩ := c.def_ 0 (d := d_law_pen) rfl
  exact ⟨_, fd, glo_fn X G c (List.mem_of_getElem? (i := 0) rfl), F.kp, F.bindsN (fun _ _ _ _ _ _ us hl => match us, hl with | [_], _ => rfl), ok_law_pen (top_of X G c) F⟩
theorem def_law_draw (X : K.In h) (G : h.Ns mainGlobals mg) (c : SaysR chk fn K) : Def P w K mg base "_law_draw" 1 ["_law_pen_here", "_law_many"] spDraw := by
  obtain ⟨fd, F⟩ := c.def_ 1 (d := d_law_draw) rfl
  exact ⟨_, fd, glo_fn X G c (List.mem_of_getElem? (i := 1) rfl), F.kp, F.bindsN (fun _ _ _ _ _ _ us hl => match us, hl with | [_, _], _ => rfl), ok_law_draw (top_of X G c) F⟩
theorem def_law_pick (X : K.In h) (G : h.Ns mainGlobals mg) (c : SaysR chk fn K) : Def P w K mg base "_law_pick" 2 ["_law_pen_here", "_law_some"] spPick := by
  obtain ⟨fd, F⟩ := c.def_ 2 (d := d_law_pick) rfl
  exact ⟨_, fd, glo_fn X G c (List.mem_of_getElem? (i := 2) rfl), F.kp, F.bindsN (fun _ _ _ _ _ _ us hl => match us, hl with | [_, _], _ => rfl), ok_law_pick (top_of X G c) (def_law_draw X G c) F⟩
theorem def_law_value (X : K.In h) (G : h.Ns mainGlobals mg) (c : SaysR chk fn K) : Def P w K mg base "_law_value" 3 ["_law_pen_here"] (spValue K) := by
  obtain ⟨fd, F⟩ := c.def_ 3 (d := d_law_value) rfl
  exact ⟨_, fd, glo_fn X G c (List.mem_of_getElem? (i := 3) rfl), F.kp, F.bindsN (fun _ _ _ _ _ _ us hl => match us, hl with | [_], _ => rfl), ok_law_value (top_of X G c) (def_law_draw X G c) (def_law_pick X G c) F⟩
theorem def_law_signs (X : K.In h) (G : h.Ns mainGlobals mg) (c : SaysR chk fn K) : Def P w K mg base "_law_signs" 1 ["_law_error"] (spSigns K) := by
  obtain ⟨fd, F⟩ := c.def_ 4 (d := d_law_signs) rfl
  exact ⟨_, fd, glo_fn X G c (List.mem_of_getElem? (i := 4) rfl), F.kp, F.bindsN (fun _ _ _ _ _ _ us hl => match us, hl with | [_], _ => rfl), ok_law_signs (top_of X G c) F⟩
theorem def_law_kinds (X : K.In h) (G : h.Ns mainGlobals mg) (c : SaysR chk fn K) : Def P w K mg base "_law_kinds" 2 ["_law_error"] (spKinds K) := by
  obtain ⟨fd, F⟩ := c.def_ 5 (d := d_law_kinds) rfl
  exact ⟨_, fd, glo_fn X G c (List.mem_of_getElem? (i := 5) rfl), F.kp, F.bindsN (fun _ _ _ _ _ _ us hl => match us, hl with | [_], _ => rfl), ok_law_kinds (top_of X G c) (def_law_signs X G c) F⟩
theorem def_law_parted (X : K.In h) (G : h.Ns mainGlobals mg) (c : SaysR chk fn K) : Def P w K mg base "_law_parted" 3 ["_law_thing"] (spMade K) := by
  obtain ⟨fd, F⟩ := c.def_ 6 (d := d_law_parted) rfl
  exact ⟨_, fd, glo_fn X G c (List.mem_of_getElem? (i := 6) rfl), F.kp, F.bindsN (fun _ _ _ _ _ _ us hl => match us, hl with | [_], _ => rfl), ok_law_parted (top_of X G c) (err_BadShape X G c) (err_BadTable X G c) (err_BadPart X G c) (err_BadQuestion X G c) (err_BadSpan X G c) (err_BadKind X G c) (err_BadLayout X G c) (err_BadRule X G c) (err_BadPlan X G c) (err_BadOrder X G c) (err_BadVault X G c) (err_BadBook X G c) (err_BadPoly X G c) (err_BadSites X G c) F⟩
theorem def_law_valued (X : K.In h) (G : h.Ns mainGlobals mg) (c : SaysR chk fn K) : Def P w K mg base "_law_valued" 3 ["_law_thing"] (spMade K) := by
  obtain ⟨fd, F⟩ := c.def_ 7 (d := d_law_valued) rfl
  exact ⟨_, fd, glo_fn X G c (List.mem_of_getElem? (i := 7) rfl), F.kp, F.bindsN (fun _ _ _ _ _ _ us hl => match us, hl with | [_], _ => rfl), ok_law_valued (top_of X G c) (err_BadLine X G c) (err_Untold X G c) (err_Gone X G c) (err_Taken X G c) (err_NoUnit X G c) (err_NoName X G c) (err_BadPlace X G c) (err_BadAmount X G c) (err_BadUnit X G c) (err_BadCount X G c) (err_BadName X G c) F⟩
theorem def_law_pairs_right (X : K.In h) (G : h.Ns mainGlobals mg) (c : SaysR chk fn K) : DefG P w K mg base "_law_pairs_right" 3 ["_law_thing", "_law_more"] (spPairs K) := by
  obtain ⟨fd, F⟩ := c.def_ 8 (d := d_law_pairs_right) rfl
  exact ⟨_, fd, glo_fn X G c (List.mem_of_getElem? (i := 8) rfl), F.kp, F.bindsN (fun _ _ _ _ _ _ us hl => match us, hl with | [_, _], _ => rfl), ok_law_pairs_right (top_of X G c) (err_BadText X G c) (err_TooMany X G c) (def_law_kinds X G c) F⟩
theorem facts (X : K.In h) (G : h.Ns mainGlobals mg) (hfa : mg ("law" : Str) = some (.ref f)) (c : SaysR chk fn K) :
    ∃ fd : FuncData, (∀ (s : Shared) (v : Value), BindsTo s fd ⟨[v], []⟩ [("_law_script", v)]) ∧ ∀ base : Heap, K.In base → base.Ns mainGlobals mg → FnG P w K mg base CX0 4 f fd ["_law_script"] (spLaw K) := by
  obtain ⟨fd, F⟩ := c.def_ 9 (d := d_law) rfl
  have e := hfa.symm.trans (glo_fn X G c (x := "law") (List.mem_of_getElem? (i := 9) rfl))
  cases e
  have b := FunD.bindsA (ps := ["_law_script"]) F fun _ _ _ _ _ _ us hl => match us, hl with | [_], _ => rfl
  exact ⟨fd, fun s v => b s [v] rfl, fun base _ _ => ok_law (top_of X G c) (def_law_pen X G c) (def_law_value X G c) (def_law_kinds X G c) (def_law_parted X G c) (def_law_valued X G c) (def_law_pairs_right X G c) F⟩
end
end L2.K00
open PySem PySem.W PySem.Calls PyProof.Rows
theorem PySem.Challenge.cw_rowvault_k00_errors_and_their_fields_holds : PySem.Challenge.rw_rowvault_k00_errors_and_their_fields.Holds := by
  w_on; o_law
  refine HandSHeadRun.head_any (r := OpenLaw.row PySem.Challenge.rw_rowvault_k00_errors_and_their_fields) (q := view (OpenLaw.row PySem.Challenge.rw_rowvault_k00_errors_and_their_fields).prog [45]) (H := L2.K00.hk) (ob := L2.K00.ob) (M := 9000) (loose := L2.K00.loose) (d := HandSHeadRun.topDef (OpenLaw.row PySem.Challenge.rw_rowvault_k00_errors_and_their_fields).prog 45) (kwd := []) L2.K00.ob_eq
    (by kernel_rfl) (fun s => by kernel_rfl) L2.K00.run (by kernel_rfl) (by kernel_rfl) (by kernel_rfl) (by rfl) (by first | assumption | decide +kernel) (by decide +kernel) ⟨rfl, rfl, rfl, rfl, rfl, by decide +kernel⟩ ?hw ?hc
  case hw => w_witness2
  case hc =>
    refine L2.RV.walkG (l := PySem.Challenge.rw_rowvault_k00_errors_and_their_fields) (n := 63) (k := 4) (x := "_law_script") (CX := L2.CX0) rfl (by decide) (by kernel_rfl) ⟨rfl, by decide, by decide⟩ ?F (fun _ _ _ _ z => z)
    intro w mg fa h Y G hmg0
    obtain ⟨K, KX, c⟩ := Y
    have hmg : mg ("law" : PySem.Str) = some (.ref fa) := by
      have e : (HandSHeadRun.topDef (OpenLaw.row PySem.Challenge.rw_rowvault_k00_errors_and_their_fields).prog 45).name = ("law" : PySem.Str) := by kernel_rfl
      rw [← e]
      exact hmg0
    obtain ⟨fd, hb, hF⟩ := L2.K00.facts (P := (PySem.Challenge.rw_rowvault_k00_errors_and_their_fields).prog) (w := w) KX G hmg c
    exact ⟨K, fd, L2.K00.spLaw K, KX, hb, fun H a ns hl hS => ⟨a, ns, rfl, hS, hl, fun _ => rfl⟩, hF⟩
